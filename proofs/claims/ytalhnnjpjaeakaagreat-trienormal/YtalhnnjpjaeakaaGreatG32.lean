/- Lists of keys and values in memory. -/
import Derived.Test.YtalhnnjpjaeakaaGreatG23
import Derived.Test.YtalhnnjpjaeakaaGreatG21
import Derived.Maps.AppendAt
import Derived.Laws.AppendOwnNone
import Derived.Test.YtalhnnjpjaeakaaGreatG00
namespace Go.Proofs.YtalhnnjpjaeakaaGreat
open Go.RowKit
open Tr
set_option linter.unusedVariables false
set_option maxRecDepth 100000
def flatP (vs : List (Value × Value)) : List Value := vs.flatMap fun p => [p.1, p.2]
theorem flatP_len : ∀ vs : List (Value × Value), (flatP vs).length = vs.length * 2
  | [] => rfl
  | p :: r => by have := flatP_len r; simp only [flatP, List.flatMap_cons, List.length_append, List.length_cons, List.length_nil] at this ⊢; omega
theorem flatP_app (a b : List (Value × Value)) : flatP (a ++ b) = flatP a ++ flatP b := by simp [flatP]
theorem flatP_drop : ∀ (vs : List (Value × Value)) (m : Nat), flatP (vs.drop m) = (flatP vs).drop (m * 2)
  | [], m => by simp [flatP]
  | p :: r, 0 => by simp
  | p :: r, m + 1 => by
    rw [List.drop_succ_cons, flatP_drop r m, show (m + 1) * 2 = m * 2 + 1 + 1 from by omega]
    simp [flatP]
theorem flatP_take : ∀ (vs : List (Value × Value)) (m : Nat), flatP (vs.take m) = (flatP vs).take (m * 2)
  | [], m => by simp [flatP]
  | p :: r, 0 => by simp [flatP]
  | p :: r, m + 1 => by
    have ih := flatP_take r m
    rw [List.take_succ_cons, show (m + 1) * 2 = m * 2 + 1 + 1 from by omega]
    simp only [flatP, List.flatMap_cons, List.cons_append, List.nil_append, List.take_succ_cons] at ih ⊢
    rw [ih]
theorem flatP_get : ∀ (vs : List (Value × Value)) (j : Nat) (p : Value × Value), vs[j]? = some p → (flatP vs)[j * 2]? = some p.1 ∧ (flatP vs)[j * 2 + 1]? = some p.2
  | [], j, p, h => by simp at h
  | q :: r, 0, p, h => by simp at h; subst h; simp [flatP]
  | q :: r, j + 1, p, h => by
    have := flatP_get r j p (by simpa using h)
    rw [show (j + 1) * 2 = j * 2 + 1 + 1 from by omega]
    simpa [flatP] using this
theorem add_block (y : Addr) (k : Nat) : (y.add k).block = y.block := by
  unfold Addr.add
  split <;> rfl
/-- A pair of slices of bytes. -/
def Gp2 (K : Nat → Prop) (w : World) (p : Value × Value) (e : List Int × List Int) : Prop := ∃ a n c a' n' c', p.1 = .slice a n c ∧ p.2 = .slice a' n' c' ∧ Sk K w a n c e.1 ∧ Sk K w a' n' c' e.2
theorem Gp2.mono {K K' : Nat → Prop} {w : World} {p : Value × Value} {e : List Int × List Int} (h : Gp2 K w p e) (hK : ∀ b, K b → K' b) : Gp2 K' w p e := by
  obtain ⟨a, n, c, a', n', c', h1, h2, h3, h4⟩ := h
  exact ⟨a, n, c, a', n', c', h1, h2, h3.mono hK, h4.mono hK⟩
theorem Gp2.go {K : Nat → Prop} {w w' : World} {p : Value × Value} {e : List Int × List Int} (h : Gp2 K w p e) (hb : Below w.heap.size w w') : Gp2 K w' p e := by
  obtain ⟨a, n, c, a', n', c', h1, h2, h3, h4⟩ := h
  exact ⟨a, n, c, a', n', c', h1, h2, h3.go hb, h4.go hb⟩
/-- A slice of pairs in memory. -/
structure PAt (K : Nat → Prop) (w : World) (a : Option Addr) (n c : Nat) (vs : List (Value × Value)) (l : PList) : Prop where
  vl : vs.length = n
  ll : l.length = n
  nc : n ≤ c
  nil : a = none → n = 0 ∧ c = 0
  row : ∀ j u, (flatP vs)[j]? = some u → ∃ g off, a = some ⟨g, off, none⟩ ∧ w.cell? ⟨g, off + j, none⟩ = some u
  gd : ∀ (j : Nat) (p : Value × Value) (e : List Int × List Int), vs[j]? = some p → l[j]? = some e → Gp2 K w p e
  rk : ∀ x, a = some x → 0 < n → K x.block
section
variable {K : Nat → Prop} {w w' : World} {a : Option Addr} {n c : Nat} {vs : List (Value × Value)} {l : PList}
theorem PAt.go (h : PAt K w a n c vs l) (hb : Below w.heap.size w w') : PAt K w' a n c vs l := ⟨h.vl, h.ll, h.nc, h.nil, fun j u hj => by
  obtain ⟨g, off, h1, h2⟩ := h.row j u hj
  exact ⟨g, off, h1, (hb.cell (p := ⟨g, off + j, none⟩) (block_lt_of_cell h2)).trans h2⟩, fun j p e h1 h2 => (h.gd j p e h1 h2).go hb, h.rk⟩
theorem PAt.empty (K : Nat → Prop) (w : World) : PAt K w none 0 0 [] [] := ⟨rfl, rfl, Nat.le_refl _, fun _ => ⟨rfl, rfl⟩, (fun j u h => by simp [flatP] at h), (fun j p e h => by simp at h), fun x hx => by cases hx⟩
theorem PAt.mono {K' : Nat → Prop} (h : PAt K w a n c vs l) (hK : ∀ b, K b → K' b) : PAt K' w a n c vs l := ⟨h.vl, h.ll, h.nc, h.nil, h.row, fun j p e h1 h2 => (h.gd j p e h1 h2).mono hK, fun x hx hn => hK _ (h.rk x hx hn)⟩
theorem PAt.old (h : PAt K w a n c vs l) : PAt (fun b => K b ∧ b < w.heap.size) w a n c vs l := ⟨h.vl, h.ll, h.nc, h.nil, h.row, fun j p e h1 h2 => by
  obtain ⟨a, n, c, a', n', c', q1, q2, q3, q4⟩ := h.gd j p e h1 h2
  exact ⟨a, n, c, a', n', c', q1, q2, ⟨q3.ag, fun x hx hn => ⟨q3.k x hx hn, q3.old hx hn⟩⟩, ⟨q4.ag, fun x hx hn => ⟨q4.k x hx hn, q4.old hx hn⟩⟩⟩, fun x hx hn => by
  refine ⟨h.rk x hx hn, ?_⟩
  obtain ⟨u, hu⟩ : ∃ u, (flatP vs)[0]? = some u := ⟨_, List.getElem?_eq_getElem (by rw [flatP_len, h.vl]; omega)⟩
  obtain ⟨g, off, e1, e2⟩ := h.row 0 u hu
  rw [hx] at e1; cases e1
  exact block_lt_of_cell e2⟩
theorem PAt.cutFrom (h : PAt K w a n c vs l) (f : Nat) (hf : f ≤ n) :
    ∃ a' n' c', (∀ (v : World) (ρ : Operand → Value) (o : Oper) (x y : Operand), o.op = .slice 26 x (some y) none none → ρ x = .slice a n c → ρ y = .int .i64 ((f : Nat) : Int) → (execOp ρ o).run Tryz.prog v = .ok (.value (.slice a' n' c')) v) ∧ PAt K w a' n' c' (vs.drop f) (l.drop f) := by
  have hnc := h.nc
  refine ⟨if c = f then a else a.map (·.add (f * 2)), n - f, c - f, ?_, ?_⟩
  · intro v ρ o x y ho hx hy
    unfold execOp
    rw [ho]
    simp [hx, hy, Instr.sliceAt, run_underlying Tryz.underlying26, Instr.slice, Instr.sliceBounds, Instr.sliceBound, asIntOf, hf, Result.andThen]
  · refine ⟨by rw [List.length_drop, h.vl], by rw [List.length_drop, h.ll], by omega, fun e => ?_, fun j u hj => ?_, fun j p e h1 h2 => h.gd (f + j) p e (by rw [← List.getElem?_drop]; exact h1) (by rw [← List.getElem?_drop]; exact h2), fun x hx hn => ?_⟩
    · have : a = none := by
        by_cases hc : c = f
        · rw [if_pos hc] at e; exact e
        · rw [if_neg hc] at e; simpa using e
      have := h.nil this
      omega
    · rw [flatP_drop, List.getElem?_drop] at hj
      obtain ⟨g, off, h1, h2⟩ := h.row _ _ hj
      have hlt : f * 2 + j < (flatP vs).length := (List.getElem?_eq_some_iff.1 hj).1
      rw [flatP_len, h.vl] at hlt
      refine ⟨g, off + f * 2, ?_, ?_⟩
      · rw [if_neg (by omega), h1, Option.map_some, addr_add]
      · rw [show off + f * 2 + j = off + (f * 2 + j) from by omega]; exact h2
    · rw [if_neg (by omega)] at hx
      cases a with
      | none => cases hx
      | some y => cases hx; show K (y.add _).block; rw [add_block]; exact h.rk y rfl (by omega)
theorem PAt.cutTo (h : PAt K w a n c vs l) (f : Nat) (hf : f ≤ n) :
    ∃ a' n' c', (∀ (v : World) (ρ : Operand → Value) (o : Oper) (x y : Operand), o.op = .slice 26 x none (some y) none → ρ x = .slice a n c → ρ y = .int .i64 ((f : Nat) : Int) → (execOp ρ o).run Tryz.prog v = .ok (.value (.slice a' n' c')) v) ∧ PAt K w a' n' c' (vs.take f) (l.take f) := by
  have hnc := h.nc
  have hfc : f ≤ c := by omega
  refine ⟨if c = 0 then a else a.map (·.add (0 * 2)), f, c, ?_, ?_⟩
  · intro v ρ o x y ho hx hy
    unfold execOp
    rw [ho]
    simp [hx, hy, Instr.sliceAt, run_underlying Tryz.underlying26, Instr.slice, Instr.sliceBounds, Instr.sliceBound, asIntOf, hfc, Result.andThen]
  · have hlv := h.vl
    have hll := h.ll
    refine ⟨by rw [List.length_take]; omega, by rw [List.length_take]; omega, by omega, fun e => ?_, fun j u hj => ?_, fun j p e h1 h2 => ?_, fun x hx hn => ?_⟩
    · have : a = none := by
        by_cases hc : c = 0
        · rw [if_pos hc] at e; exact e
        · rw [if_neg hc] at e; simpa using e
      have := h.nil this
      omega
    · rw [flatP_take] at hj
      have hlt : j < ((flatP vs).take (f * 2)).length := (List.getElem?_eq_some_iff.1 hj).1
      rw [List.length_take, flatP_len, h.vl] at hlt
      rw [List.getElem?_take_of_lt (by omega)] at hj
      obtain ⟨g, off, h1, h2⟩ := h.row _ _ hj
      exact ⟨g, off, by rw [if_neg (by omega), h1, Option.map_some, addr_add]; rfl, h2⟩
    · have hj1 : j < (vs.take f).length := (List.getElem?_eq_some_iff.1 h1).1
      rw [List.length_take] at hj1
      exact h.gd j p e (by rw [List.getElem?_take_of_lt (by omega)] at h1; exact h1) (by rw [List.getElem?_take_of_lt (by omega)] at h2; exact h2)
    · rw [if_neg (by omega)] at hx
      cases a with
      | none => cases hx
      | some y => cases hx; show K (y.add _).block; rw [add_block]; exact h.rk y rfl (by omega)
theorem PAt.at (h : PAt K w a n c vs l) {j : Nat} (hj : j < n) : ∃ g off a1 n1 c1 a2 n2 c2 k x, a = some ⟨g, off, none⟩ ∧ l[j]? = some (k, x) ∧ w.cell? ⟨g, off + j * 2, none⟩ = some (.slice a1 n1 c1) ∧ w.cell? ⟨g, off + j * 2 + 1, none⟩ = some (.slice a2 n2 c2) ∧ Sk K w a1 n1 c1 k ∧ Sk K w a2 n2 c2 x := by
  obtain ⟨p, hp⟩ : ∃ p, vs[j]? = some p := ⟨_, List.getElem?_eq_getElem (by rw [h.vl]; exact hj)⟩
  obtain ⟨e, he⟩ : ∃ e, l[j]? = some e := ⟨_, List.getElem?_eq_getElem (by rw [h.ll]; exact hj)⟩
  obtain ⟨a1, n1, c1, a2, n2, c2, h1, h2, h3, h4⟩ := h.gd j p e hp he
  obtain ⟨f1, f2⟩ := flatP_get vs j p hp
  obtain ⟨g, off, e1, e2⟩ := h.row _ _ f1
  obtain ⟨g', off', e1', e2'⟩ := h.row _ _ f2
  rw [e1] at e1'
  cases e1'
  exact ⟨g, off, a1, n1, c1, a2, n2, c2, e.1, e.2, e1, he, by rw [e2, h1], by rw [Nat.add_assoc, e2', h2], h3, h4⟩
end
/-- A list in a row of one's own. -/
def OwnL (X : Nat → Prop) (w : World) (base : Nat) (v : Value) (l : PList) : Prop := (∀ b, base ≤ b → X b) ∧ ∃ vs : List (Value × Value), vs.length = l.length ∧ w.ownsRow base 45 2 v l.length (flatP vs) ∧ ∀ (j : Nat) (p : Value × Value) (e : List Int × List Int), vs[j]? = some p → l[j]? = some e → Gp2 (fun b => v.ownBlock ≠ some b ∧ X b) w p e
theorem OwnL.pat {X : Nat → Prop} {w : World} {base : Nat} {v : Value} {l : PList} (h : OwnL X w base v l) : ∃ a c vs, v = .slice a l.length c ∧ PAt X w a l.length c vs l := by
  obtain ⟨hX, vs, h1, ⟨h2, h3⟩, h4⟩ := h
  rcases h3 with ⟨rfl, h5⟩ | ⟨g, cap, cur, rfl, hbg, hg, hc1, hc2, hc3, hc4⟩
  · refine ⟨none, 0, vs, by rw [h5], h1, rfl, by omega, fun _ => ⟨h5, rfl⟩, fun j u hj => ?_, fun j p e q1 q2 => (h4 j p e q1 q2).mono (fun _ h => h.2), fun x hx => by cases hx⟩
    have : vs = [] := List.eq_nil_of_length_eq_zero (by omega)
    subst this; simp [flatP] at hj
  · refine ⟨some ⟨g, 0, none⟩, cap, vs, rfl, h1, rfl, hc1, (fun e => by cases e), fun j u hj => ⟨g, 0, rfl, ?_⟩, fun j p e q1 q2 => (h4 j p e q1 q2).mono (fun _ h => h.2), fun x hx _ => by cases hx; exact hX _ hbg⟩
    rw [cell_of_row _ _ _ _ _ _ hg, Nat.zero_add]
    have hlt : j < (flatP vs).length := (List.getElem?_eq_some_iff.1 hj).1
    rw [flatP_len, h1] at hlt
    rw [← hc4, List.getElem?_take_of_lt (by omega)] at hj
    rw [← Array.getElem?_toList]; exact hj
theorem infoPR : ∃ i, Tryz.prog.info? 45 = some i ∧ i.zero = some (.agg #[.slice none 0 0, .slice none 0 0]) ∧ i.size = 2 ∧ i.bytes = 48 := by
  have h : (Tryz.prog.info? 45).map (fun i => (i.zero, i.size, i.bytes)) = some (some (.agg #[.slice none 0 0, .slice none 0 0]), 2, 48) := by kernel_rfl
  cases hq : Tryz.prog.info? 45 with
  | none => rw [hq] at h; simp at h
  | some i => rw [hq] at h; simp at h; exact ⟨i, rfl, h.1, h.2.1, h.2.2⟩
theorem OwnL.far {X : Nat → Prop} {w w' : World} {base : Nat} {v : Value} {l : PList} (h : OwnL X w base v l) (hb : Below w.heap.size w w') : OwnL X w' base v l := by
  obtain ⟨hX, vs, h1, ⟨h2, h3⟩, h4⟩ := h
  refine ⟨hX, vs, h1, ⟨h2, ?_⟩, fun j p e q1 q2 => (h4 j p e q1 q2).go hb⟩
  rcases h3 with q | ⟨g, cap, cur, e1, e2, e3, e4⟩
  · exact .inl q
  · exact .inr ⟨g, cap, cur, e1, e2, (hb.block g (lt_of_get e3)).trans e3, e4⟩
theorem OwnL.own {X : Nat → Prop} {w : World} {base : Nat} {v : Value} {l : PList} (h : OwnL X w base v l) : ∀ k, v.ownBlock = some k → base ≤ k ∧ k < w.heap.size := by
  obtain ⟨hX, vs, h1, ⟨h2, h3⟩, h4⟩ := h
  intro k hk
  rcases h3 with ⟨rfl, _⟩ | ⟨g, cap, cur, rfl, hbg, hg, _⟩
  · cases hk
  · have e : g = k := by simpa [Value.ownBlock] using hk
    subst e
    exact ⟨hbg, lt_of_get hg⟩
/-- An append of such a slice onto a row of one's own. -/
theorem appQ {X : Nat → Prop} {w : World} {base : Nat} {v : Value} {l : PList} (hown : OwnL X w base v l) {K : Nat → Prop} {a : Option Addr} {m c : Nat} {vs' : List (Value × Value)} {l' : PList} (h : PAt K w a m c vs' l') (hK : ∀ b, K b → v.ownBlock ≠ some b ∧ X b) (hlen : l.length + m ≤ 2900000000000) (hbase : base ≤ w.heap.size) :
    ∃ v' w', (∀ ty, (Builtin.append_ #[26, 26] ty #[v, .slice a m c]).run Tryz.prog w = .ok v' w') ∧ OwnL X w' base v' (l ++ l') ∧ Below base w w' ∧ (∀ k, k < w.heap.size → v.ownBlock ≠ some k → w'.heap[k]? = w.heap[k]?) ∧ (v'.ownBlock = v.ownBlock ∨ v'.ownBlock = some w.heap.size) := by
  obtain ⟨i, hi, hz, hsz, hby⟩ := infoPR
  have hOw := hown.own
  obtain ⟨hX, vs, h1, h2, h4⟩ := id hown
  cases a with
  | none =>
    obtain ⟨rfl, rfl⟩ := h.nil rfl
    have hn0 : l' = [] := List.eq_nil_of_length_eq_zero h.ll
    subst hn0
    exact ⟨v, w, fun ty => run_append_owned_none w base 26 ty 45 i 2 Tryz.underlying26 hi v _ _ h2, by rw [List.append_nil]; exact hown, Below.refl _ _, fun _ _ _ => rfl, .inl rfl⟩
  | some ad =>
    have hc : ∀ j u, (flatP vs')[j]? = some u → w.cell? (ad.add j) = some u := by
      intro j u hj
      obtain ⟨g, off, e1, e2⟩ := h.row j u hj
      cases e1
      rw [addr_add]; exact e2
    have hone : ∀ u ∈ flatP vs', u.oneCell' = true := by
      intro u hu
      obtain ⟨p, hp, hup⟩ := List.mem_flatMap.1 hu
      obtain ⟨j, hj, e⟩ := List.mem_iff_getElem.1 hp
      have hjl : j < l'.length := by rw [h.ll, ← h.vl]; exact hj
      obtain ⟨a1, n1, c1, a2, n2, c2, q1, q2, _, _⟩ := h.gd j p l'[j] (by rw [List.getElem?_eq_getElem hj, e]) (List.getElem?_eq_getElem hjl)
      simp at hup
      rcases hup with q | q
      · rw [q, q1]; rfl
      · rw [q, q2]; rfl
    obtain ⟨v', w', r1, r2, r3, _, r5⟩ := run_append_own_at w base 26 0 45 i _ 2 48 Tryz.underlying26 hi hz hsz hby rfl (by decide) v l.length (flatP vs) h2 ad m c (flatP vs') (by rw [flatP_len, h.vl]) hc hone (by unfold maxLen; omega) (by omega) hbase
    have hkeep : ∀ {K' : Nat → Prop} {p : Value × Value} {e : List Int × List Int}, (∀ b, K' b → v.ownBlock ≠ some b ∧ X b) → Gp2 K' w p e → Gp2 (fun b => v'.ownBlock ≠ some b ∧ X b) w' p e := by
      intro K' p e hK' hg
      obtain ⟨a1, n1, c1, a2, n2, c2, q1, q2, q3, q4⟩ := hg
      have hsk : ∀ {a : Option Addr} {n c : Nat} {bs : List Int}, Sk K' w a n c bs → Sk (fun b => v'.ownBlock ≠ some b ∧ X b) w' a n c bs := by
        intro a n c bs hs
        refine ⟨⟨?_, hs.ag.nil, hs.ag.l, hs.ag.b⟩, fun x hx hn => ?_⟩
        · rcases hs.ag.i with q | ⟨gb, off, q1, q2, q3, q4, q5, q7⟩
          · exact .inl q
          · refine .inr ⟨gb, off, q1, q2, q3, q4, q5, fun j hj => ?_⟩
            rw [← q7 j hj]
            exact World.cell?_of_block (r3.block gb (block_lt_of_cell (q7 j hj)) (fun e => (hK' _ (hs.k _ q1 q3)).1 e.symm))
        · refine ⟨?_, (hK' _ (hs.k x hx hn)).2⟩
          rcases r5 with q | q
          · rw [q]; exact (hK' _ (hs.k x hx hn)).1
          · rw [q]; intro e; have := hs.old hx hn; simp at e; omega
      exact ⟨a1, n1, c1, a2, n2, c2, q1, q2, hsk q3, hsk q4⟩
    refine ⟨v', w', fun ty => r1, ⟨hX, vs ++ vs', by simp [h1, h.vl, h.ll], ?_, ?_⟩, ?_, fun k hk hn => r3.block k hk (fun e => hn e.symm), r5⟩
    · rw [List.length_append, h.ll, flatP_app]; exact r2
    · intro j p e q1 q2
      by_cases hj : j < vs.length
      · rw [List.getElem?_append_left hj] at q1
        rw [List.getElem?_append_left (by omega)] at q2
        exact hkeep (fun b hb => hb) (h4 j p e q1 q2)
      · rw [List.getElem?_append_right (by omega)] at q1
        rw [List.getElem?_append_right (by omega), ← h1] at q2
        exact hkeep hK (h.gd _ p e q1 q2)
    · exact (Below.refl _ _).grown r3 hbase (fun k hk => (hOw k hk).1)
theorem appP {X : Nat → Prop} {w : World} {base : Nat} {v : Value} {l : PList} (hown : OwnL X w base v l) {K : Nat → Prop} {a : Option Addr} {m c : Nat} {vs' : List (Value × Value)} {l' : PList} (h : PAt K w a m c vs' l') (hK : ∀ b, K b → v.ownBlock ≠ some b ∧ X b) (hlen : l.length + m ≤ 2900000000000) (hbase : base ≤ w.heap.size) :
    ∃ v' w', (∀ ty, (Builtin.append_ #[26, 26] ty #[v, .slice a m c]).run Tryz.prog w = .ok v' w') ∧ OwnL X w' base v' (l ++ l') ∧ Below base w w' := by
  obtain ⟨v', w', h1, h2, h3, _⟩ := appQ hown h hK hlen hbase
  exact ⟨v', w', h1, h2, h3⟩
/-- A new empty row. -/
theorem OwnL.new {X : Nat → Prop} {w w' : World} {g base : Nat} (h : New w w' g #[] 45) (hb : base ≤ w.heap.size) (hX : ∀ b, base ≤ b → X b) : OwnL X w' base (.slice (some ⟨g, 0, none⟩) 0 0) []     := ⟨hX, [], rfl, ⟨rfl, .inr ⟨g, 0, #[], rfl, by rw [h.hg]; exact hb, h.row, Nat.le_refl _, by unfold maxLen; omega, rfl, rfl⟩⟩, fun j p e q => by simp at q⟩
/-- One pair in a new block. -/
theorem PAt.one {K : Nat → Prop} {w w' : World} {g : Nat} {a a' : Option Addr} {n c n' c' : Nat} {k x : List Int} (h : New w w' g #[.slice a n c, .slice a' n' c'] 45) (h1 : Sk K w a n c k) (h2 : Sk K w a' n' c' x) (hKg : K g) : PAt K w' (some ⟨g, 0, none⟩) 1 1 [(.slice a n c, .slice a' n' c')] [(k, x)] := by
  refine ⟨rfl, rfl, Nat.le_refl _, (fun e => by cases e), fun j u hj => ⟨g, 0, rfl, ?_⟩, (fun j p e q1 q2 => ?_), fun x hx _ => by cases hx; exact hKg⟩
  · rw [cell_of_row _ _ _ _ _ _ h.row, Nat.zero_add]
    match j, hj with
    | 0, hj => exact hj
    | 1, hj => exact hj
    | j + 2, hj => simp [flatP] at hj
  · match j, q1, q2 with
    | 0, q1, q2 =>
      simp at q1 q2
      subst q1 q2
      exact ⟨a, n, c, a', n', c', rfl, rfl, h1.go h.below, h2.go h.below⟩
    | j + 1, q1, _ => simp at q1
theorem Tri.noslice {K : Nat → Prop} {w : World} {g : Nat} {t : Tr} (h : Tri K w g t) (o : Nat) (a : Option Addr) (n c : Nat) : w.cell? ⟨g, o, none⟩ ≠ some (.slice a n c) := by
  obtain ⟨⟨v, h1, h2⟩, h3⟩ := h
  rw [cell_of_row _ _ _ _ _ _ h1]
  cases o with
  | zero =>
    intro e
    simp at e
    subst e
    cases t with
    | no => cases h2
    | leaf p x => obtain ⟨_, _, _, _, _, _, e, _⟩ := h2; cases e
    | ext p t => obtain ⟨_, _, _, _, e, _⟩ := h2; cases e
    | br k x => obtain ⟨_, _, _, _, e, _⟩ := h2; cases e
  | succ o => simp
theorem PAt.touch {K K' : Nat → Prop} {w w' : World} {g : Nat} {t : Tr} {a : Option Addr} {n c : Nat} {vs : List (Value × Value)} {l : PList} (h : PAt K w a n c vs l) (ht : Touch g w w') (hT : Tri K' w g t) : PAt K w' a n c vs l := by
  refine ⟨h.vl, h.ll, h.nc, h.nil, fun j u hj => ?_, fun j p e h1 h2 => ?_, h.rk⟩
  · obtain ⟨g', off, h1, h2⟩ := h.row j u hj
    refine ⟨g', off, h1, ?_⟩
    have hu : ∃ a n c, u = .slice a n c := by
      have hlt : j < (flatP vs).length := (List.getElem?_eq_some_iff.1 hj).1
      have hu : u ∈ flatP vs := List.mem_of_getElem? hj
      obtain ⟨p, hp, hup⟩ := List.mem_flatMap.1 hu
      obtain ⟨i, hi, e⟩ := List.mem_iff_getElem.1 hp
      have hjl : i < l.length := by rw [h.ll, ← h.vl]; exact hi
      obtain ⟨a1, n1, c1, a2, n2, c2, q1, q2, _, _⟩ := h.gd i p l[i] (by rw [List.getElem?_eq_getElem hi, e]) (List.getElem?_eq_getElem hjl)
      simp at hup
      rcases hup with q | q
      · exact ⟨_, _, _, q.trans q1⟩
      · exact ⟨_, _, _, q.trans q2⟩
    obtain ⟨a1, n1, c1, rfl⟩ := hu
    have hne : g' ≠ g := fun e => by subst e; exact hT.noslice _ _ _ _ h2
    rw [← h2]
    exact World.cell?_of_block (ht.block g' (block_lt_of_cell h2) hne)
  · obtain ⟨a1, n1, c1, a2, n2, c2, q1, q2, q3, q4⟩ := h.gd j p e h1 h2
    exact ⟨a1, n1, c1, a2, n2, c2, q1, q2, q3.touch ht hT, q4.touch ht hT⟩
end Go.Proofs.YtalhnnjpjaeakaaGreat
/- The document's lists of keys and values: where a key stands, its value, a list with one more. -/
namespace Go.Proofs.YtalhnnjpjaeakaaGreat
open Go.RowKit
open Tr
open Ni (lessP)
set_option linter.unusedVariables false
set_option maxRecDepth 100000
theorem Sk.byte {K : Nat → Prop} {w : World} {a : Option Addr} {n c : Nat} {p : List Int} (h : Sk K w a n c p) {j : Nat} (hj : j < n) : ∃ g off, a = some ⟨g, off, none⟩ ∧ w.cell? ⟨g, off + j * 1, none⟩ = some (.int .u8 (p.getD j 0)) := by
  rcases h.ag.i with ⟨h1, h2⟩ | ⟨gb, off, h1, h2, h3, h4, h5, h7⟩
  · omega
  · exact ⟨gb, off, h1, by rw [Nat.mul_one]; exact h7 j (by have := h.len; omega)⟩
theorem drop_cons {p : List Int} {j : Nat} (hj : j < p.length) : p.drop j = p.getD j 0 :: p.drop (j + 1) := by
  rw [List.drop_eq_getElem_cons hj]; simp [List.getD, hj]
theorem less_step {p q : List Int} {j : Nat} (h1 : j < p.length) (h2 : j < q.length) : lessP (p.drop j) (q.drop j) = if p.getD j 0 = q.getD j 0 then lessP (p.drop (j + 1)) (q.drop (j + 1)) else decide (p.getD j 0 < q.getD j 0) := by
  rw [drop_cons h1, drop_cons h2]; rfl
theorem less_end {p q : List Int} {j : Nat} (h : ¬ (j < p.length ∧ j < q.length)) (h1 : j ≤ p.length) (h2 : j ≤ q.length) : lessP (p.drop j) (q.drop j) = decide (p.length < q.length) := by
  by_cases e : j = p.length
  · rw [List.drop_eq_nil_of_le (by omega)]
    by_cases e2 : j < q.length
    · rw [drop_cons e2]
      rw [decide_eq_true (by omega)]; rfl
    · rw [List.drop_eq_nil_of_le (by omega), decide_eq_false (by omega)]; rfl
  · rw [show q.drop j = [] from List.drop_eq_nil_of_le (by omega), decide_eq_false (by omega)]
    cases p.drop j <;> rfl
/-- Two cells. -/
structure Cl2 (w : World) (p p' : Addr) (v v' : Value) : Prop where
  cx : w.cell? p = some v
  cy : w.cell? p' = some v'
theorem Cl2.drew {w : World} {p p' : Addr} {v v' : Value} (h : Cl2 w p p' v v') : Cl2 w.drew p p' v v' := ⟨h.cx, h.cy⟩
theorem Cl2.go {w w' : World} {p p' : Addr} {v v' : Value} (h : Cl2 w p p' v v') (hb : Below w.heap.size w w') : Cl2 w' p p' v v' := ⟨(hb.cell (p := p) (block_lt_of_cell h.cx)).trans h.cx, (hb.cell (p := p') (block_lt_of_cell h.cy)).trans h.cy⟩
theorem atN_drop {k : List Int} {l : PList} {j : Nat} (hj : j < l.length) {e : List Int × List Int} (he : l[j]? = some e) : atN k (l.drop j) = if lessP e.1 k then atN k (l.drop (j + 1)) + 1 else 0 := by
  have : l.drop j = e :: l.drop (j + 1) := by
    rw [List.drop_eq_getElem_cons hj]
    rw [List.getElem?_eq_getElem hj] at he
    simp at he; rw [he]
  rw [this]; rfl
theorem isAt_of {k : List Int} {l : PList} {j : Nat} (h : atN k l = j) {e : List Int × List Int} (he : l[j]? = some e) : isAt k l = decide (e.1 = k) := by
  unfold isAt; rw [h, he]
theorem isAt_end {k : List Int} {l : PList} (h : atN k l = l.length) : isAt k l = false := by
  unfold isAt; rw [h, List.getElem?_eq_none (Nat.le_refl _)]
set_option maxHeartbeats 2000000 in
theorem ahead_any {K K' : Nat → Prop} {w : World} {a a' : Option Addr} {n c n' c' : Nat} {p q : List Int} (hp : Sk K w a n c p) (hq : Sk K' w a' n' c' q) (hn : n ≤ 1000000) :
    Calls Tryz.prog 53 #[.slice a n c, .slice a' n' c'] w fun e w' => ∃ u, e = .returned u ∧ (fun u w' => u = .bool (lessP p q) ∧ Bl w w') u w' := by
  have hB := Bl.refl w
  have lp := hp.len
  have lq := hq.len
  refine cw_enter Tryz.func53 rfl 41 rfl ?_
  show CW _ _ _ _ _ _ _ [(0, .slice a n c), (1, .slice a' n' c')] _
  refine cw_seq ?_
  refine cw_region ?_
  refine rp 4 (.bool false) ?_
  refine rw_nil ?_
  refine nw_then ?_
  refine cw_seq ?_
  refine cw_seq ?_
  refine cw_region ?_
  refine rp 5 (.int .i64 0) ?_
  refine rw_nil ?_
  refine nw_then ?_
  refine cw_block ?_
  refine cw_loop (X := Nat) (fun j => [(5, .int .i64 ((j : Nat) : Int)), (0, .slice a n c), (1, .slice a' n' c')]) (fun j v => Bl w v ∧ j ≤ n ∧ j ≤ n' ∧ lessP (p.drop j) (q.drop j) = lessP p q) (fun j => n - j) 0 (by exact ⟨fun _ => by kernel_rfl, ⟨fun _ => by kernel_rfl, ⟨fun _ => by kernel_rfl, trivial⟩⟩⟩) ⟨hB, Nat.zero_le _, Nat.zero_le _, by simp⟩ ?_
  clear hB
  rintro j v ⟨hB, hj1, hj2, hL⟩
  by_cases hlt : j < n ∧ j < n'
  · skip
    obtain ⟨g1, o1, e1, hc1⟩ := (hp.go hB).byte hlt.1
    obtain ⟨g2, o2, e2, hc2⟩ := (hq.go hB).byte hlt.2
    subst e1
    subst e2
    have hst := less_step (p := p) (q := q) (j := j) (by omega) (by omega)
    obtain ⟨x, ex⟩ : ∃ x, p.getD j 0 = x := ⟨_, rfl⟩
    obtain ⟨y, ey⟩ : ∃ y, q.getD j 0 = y := ⟨_, rfl⟩
    rw [ex, ey, hL] at hst
    rw [ex] at hc1
    rw [ey] at hc2
    have hS : Cl2 v ⟨g1, o1 + j * 1, none⟩ ⟨g2, o2 + j * 1, none⟩ (.int .u8 x) (.int .u8 y) := ⟨hc1, hc2⟩
    refine cw_seq ?_
    refine cw_seq ?_
    refine cw_region ?_
    refine rp 6 (.int .i64 ((j : Nat) : Int)) ?_
    refine rp 7 (.slice (some ⟨g1, o1, none⟩) n c) ?_
    refine rp 8 (.int .i64 n) ?_
    refine rv 9 (.bool true) (fun _ => ol_conv (v := .bool (decide (((j : Nat) : Int) < (n : Int)))) (by kernel_rfl) (congrArg Value.bool (decide_eq_true (by omega)))) ?_
    refine rp 10 (.bool true) ?_
    refine rp 11 (.int .i64 ((j : Nat) : Int)) ?_
    refine rp 12 (.slice (some ⟨g2, o2, none⟩) n' c') ?_
    refine rp 13 (.int .i64 n') ?_
    refine rv 14 (.bool true) (fun _ => ol_conv (v := .bool (decide (((j : Nat) : Int) < (n' : Int)))) (by kernel_rfl) (congrArg Value.bool (decide_eq_true (by omega)))) ?_
    refine rp 15 (.bool true) ?_
    refine rw_nil ?_
    refine nw_then ?_
    refine cw_cond_t (fun _ => by kernel_rfl) ?_
    refine cw_skip ?_
    refine nw_then ?_
    refine cw_seq ?_
    refine cw_block ?_
    refine cw_seq ?_
    refine cw_draw (fun v => Cl2 v ⟨g1, o1 + j * 1, none⟩ ⟨g2, o2 + j * 1, none⟩ (.int .u8 x) (.int .u8 y)) (by kernel_rfl) (hS.drew) ?_
    replace hB := hB.drew
    replace hS := hS.drew
    refine dt 0 18 (.slice (some ⟨g1, o1, none⟩) n c) (fun v hv _ => by kernel_rfl) hS ?_
    refine dt 1 19 (.int .i64 ((j : Nat) : Int)) (fun v hv _ => by kernel_rfl) hS ?_
    refine dt 2 20 (.pointer (some ⟨g1, o1 + j * 1, none⟩)) (fun v hv _ => ol_index 27 _ _ g1 o1 j n c 1 5 rfl (by kernel_rfl) (by kernel_rfl) hlt.1 Tryz.underlying27 (by kernel_rfl)) hS ?_
    refine dt 3 21 (.int .u8 x) (fun v hv _ => ol_cell 5 _ _ _ _ rfl (by kernel_rfl) hv.cx Tryz.underlying5 rfl) hS ?_
    refine dt 4 22 (.slice (some ⟨g2, o2, none⟩) n' c') (fun v hv _ => by kernel_rfl) hS ?_
    refine dt 5 23 (.int .i64 ((j : Nat) : Int)) (fun v hv _ => by kernel_rfl) hS ?_
    refine dt 6 24 (.pointer (some ⟨g2, o2 + j * 1, none⟩)) (fun v hv _ => ol_index 27 _ _ g2 o2 j n' c' 1 5 rfl (by kernel_rfl) (by kernel_rfl) hlt.2 Tryz.underlying27 (by kernel_rfl)) hS ?_
    refine dt 7 25 (.int .u8 y) (fun v hv _ => ol_cell 5 _ _ _ _ rfl (by kernel_rfl) hv.cy Tryz.underlying5 rfl) hS ?_
    refine dt 8 26 (.bool (!((x : Int) == (y : Int)))) (fun v hv _ => by kernel_rfl) hS ?_
    refine dw_done (by kernel_rfl) ?_
    refine nw_then ?_
    by_cases hxy : x = y
    · skip
      rw [show (!((x : Int) == (y : Int))) = false from by simp [hxy]]
      refine cw_cond_f (fun _ => by kernel_rfl) ?_
      refine cw_skip ?_
      refine nw_block ?_
      refine nw_then ?_
      refine cw_region ?_
      refine rp 16 (.int .i64 ((j : Nat) : Int)) ?_
      refine rv 17 (.int .i64 (((j : Nat) : Int) + 1)) (fun _ => ol_conv (v := .int .i64 (IntKind.i64.wrap (((j : Nat) : Int) + 1))) (by kernel_rfl) (congrArg (Value.int .i64) (wrap64 (by omega) (by omega)))) ?_
      refine rp 5 (.int .i64 (((j : Nat) : Int) + 1)) ?_
      refine rw_nil ?_
      exact nw_round (E := fun j => [(5, .int .i64 ((j : Nat) : Int)), (0, .slice (some ⟨g1, o1, none⟩) n c), (1, .slice (some ⟨g2, o2, none⟩) n' c')]) (R := fun j v => Bl w v ∧ j ≤ n ∧ j ≤ n' ∧ lessP (p.drop j) (q.drop j) = lessP p q) (μ := fun j => n - j) (x := j) (j + 1) (by exact ⟨fun _ => by kernel_rfl, ⟨fun _ => by kernel_rfl, ⟨fun _ => by kernel_rfl, trivial⟩⟩⟩) ⟨hB, by omega, by omega, by rw [hst, if_pos hxy]⟩ (by show n - (j + 1) < n - j; omega)
    · skip
      rw [show (!((x : Int) == (y : Int))) = true from by simp [hxy]]
      refine cw_cond_t (fun _ => by kernel_rfl) ?_
      refine cw_seq ?_
      refine cw_draw (fun v => Cl2 v ⟨g1, o1 + j * 1, none⟩ ⟨g2, o2 + j * 1, none⟩ (.int .u8 x) (.int .u8 y)) (by kernel_rfl) (hS.drew) ?_
      replace hB := hB.drew
      replace hS := hS.drew
      refine dt 0 27 (.slice (some ⟨g1, o1, none⟩) n c) (fun v hv _ => by kernel_rfl) hS ?_
      refine dt 1 28 (.int .i64 ((j : Nat) : Int)) (fun v hv _ => by kernel_rfl) hS ?_
      refine dt 2 29 (.pointer (some ⟨g1, o1 + j * 1, none⟩)) (fun v hv _ => ol_index 27 _ _ g1 o1 j n c 1 5 rfl (by kernel_rfl) (by kernel_rfl) hlt.1 Tryz.underlying27 (by kernel_rfl)) hS ?_
      refine dt 3 30 (.int .u8 x) (fun v hv _ => ol_cell 5 _ _ _ _ rfl (by kernel_rfl) hv.cx Tryz.underlying5 rfl) hS ?_
      refine dt 4 31 (.slice (some ⟨g2, o2, none⟩) n' c') (fun v hv _ => by kernel_rfl) hS ?_
      refine dt 5 32 (.int .i64 ((j : Nat) : Int)) (fun v hv _ => by kernel_rfl) hS ?_
      refine dt 6 33 (.pointer (some ⟨g2, o2 + j * 1, none⟩)) (fun v hv _ => ol_index 27 _ _ g2 o2 j n' c' 1 5 rfl (by kernel_rfl) (by kernel_rfl) hlt.2 Tryz.underlying27 (by kernel_rfl)) hS ?_
      refine dt 7 34 (.int .u8 y) (fun v hv _ => ol_cell 5 _ _ _ _ rfl (by kernel_rfl) hv.cy Tryz.underlying5 rfl) hS ?_
      refine dt 8 35 (.bool (decide ((x : Int) < (y : Int)))) (fun v hv _ => by kernel_rfl) hS ?_
      refine dt 9 4 (.bool (decide ((x : Int) < (y : Int)))) (fun v hv _ => by kernel_rfl) hS ?_
      refine dw_done (by kernel_rfl) ?_
      refine nw_then ?_
      refine cw_ret ?_
      refine nw_ret_block ?_
      refine nw_ret_then ?_
      refine nw_ret_then ?_
      refine nw_ret_block ?_
      refine nw_ret_then ?_
      exact nw_ret_body (.bool (decide ((x : Int) < (y : Int)))) (fun _ => by kernel_rfl) ⟨_, rfl, by rw [hst, if_neg hxy], hB⟩
  have hen := less_end (p := p) (q := q) (j := j) (by omega) (by omega) (by omega)
  rw [lp, lq] at hen
  by_cases hl1 : j < n
  · skip
    refine cw_seq ?_
    refine cw_seq ?_
    refine cw_region ?_
    refine rp 6 (.int .i64 ((j : Nat) : Int)) ?_
    refine rp 7 (.slice a n c) ?_
    refine rp 8 (.int .i64 n) ?_
    refine rv 9 (.bool true) (fun _ => ol_conv (v := .bool (decide (((j : Nat) : Int) < (n : Int)))) (by kernel_rfl) (congrArg Value.bool (decide_eq_true (by omega)))) ?_
    refine rp 10 (.bool true) ?_
    refine rp 11 (.int .i64 ((j : Nat) : Int)) ?_
    refine rp 12 (.slice a' n' c') ?_
    refine rp 13 (.int .i64 n') ?_
    refine rv 14 (.bool false) (fun _ => ol_conv (v := .bool (decide (((j : Nat) : Int) < (n' : Int)))) (by kernel_rfl) (congrArg Value.bool (decide_eq_false (by omega)))) ?_
    refine rp 15 (.bool false) ?_
    refine rw_nil ?_
    refine nw_then ?_
    refine cw_cond_f (fun _ => by kernel_rfl) ?_
    refine cw_exit ?_
    refine nw_exit_then ?_
    refine nw_exit_then ?_
    refine nw_exit_here ?_
    refine nw_then ?_
    refine cw_seq ?_
    refine cw_region ?_
    refine rp 36 (.slice a n c) ?_
    refine rp 37 (.int .i64 n) ?_
    refine rp 38 (.slice a' n' c') ?_
    refine rp 39 (.int .i64 n') ?_
    refine rp 40 (.bool (decide ((n : Int) < (n' : Int)))) ?_
    refine rp 4 (.bool (decide ((n : Int) < (n' : Int)))) ?_
    refine rw_nil ?_
    refine nw_then ?_
    refine cw_ret ?_
    exact nw_ret_body (.bool (decide ((n : Int) < (n' : Int)))) (fun _ => by kernel_rfl) ⟨_, rfl, by rw [← hL, hen]; congr 1; exact decide_eq_decide.2 (by omega), hB⟩
  · skip
    refine cw_seq ?_
    refine cw_seq ?_
    refine cw_region ?_
    refine rp 6 (.int .i64 ((j : Nat) : Int)) ?_
    refine rp 7 (.slice a n c) ?_
    refine rp 8 (.int .i64 n) ?_
    refine rv 9 (.bool false) (fun _ => ol_conv (v := .bool (decide (((j : Nat) : Int) < (n : Int)))) (by kernel_rfl) (congrArg Value.bool (decide_eq_false (by omega)))) ?_
    refine rp 10 (.bool false) ?_
    refine rw_off 11 (fun _ => by kernel_rfl) ?_
    refine rw_off 12 (fun _ => by kernel_rfl) ?_
    refine rw_off 13 (fun _ => by kernel_rfl) ?_
    refine rw_off 14 (fun _ => by kernel_rfl) ?_
    refine rp 15 (.bool false) ?_
    refine rw_nil ?_
    refine nw_then ?_
    refine cw_cond_f (fun _ => by kernel_rfl) ?_
    refine cw_exit ?_
    refine nw_exit_then ?_
    refine nw_exit_then ?_
    refine nw_exit_here ?_
    refine nw_then ?_
    refine cw_seq ?_
    refine cw_region ?_
    refine rp 36 (.slice a n c) ?_
    refine rp 37 (.int .i64 n) ?_
    refine rp 38 (.slice a' n' c') ?_
    refine rp 39 (.int .i64 n') ?_
    refine rp 40 (.bool (decide ((n : Int) < (n' : Int)))) ?_
    refine rp 4 (.bool (decide ((n : Int) < (n' : Int)))) ?_
    refine rw_nil ?_
    refine nw_then ?_
    refine cw_ret ?_
    exact nw_ret_body (.bool (decide ((n : Int) < (n' : Int)))) (fun _ => by kernel_rfl) ⟨_, rfl, by rw [← hL, hen]; congr 1; exact decide_eq_decide.2 (by omega), hB⟩
set_option maxHeartbeats 2000000 in
theorem at_any {K K' : Nat → Prop} {w : World} {a : Option Addr} {n c : Nat} {vs : List (Value × Value)} {l : PList} (hl : PAt K w a n c vs l) {ak : Option Addr} {nk ck : Nat} {k : List Int} (hk : Sk K' w ak nk ck k) (hb : n ≤ 2600000000000) (hlen : ∀ (j : Nat) k x, l[j]? = some (k, x) → k.length ≤ 1000000) :
    Calls Tryz.prog 37 #[.slice a n c, .slice ak nk ck] w fun e w' => ∃ u, e = .returned u ∧ (fun u w' => u = .tuple #[.int .i64 ((atN k l : Nat) : Int), .bool (isAt k l)] ∧ Bl w w') u w' := by
  have hB := Bl.refl w
  have ll := hl.ll
  refine cw_enter Tryz.func37 rfl 39 rfl ?_
  show CW _ _ _ _ _ _ _ [(0, .slice a n c), (1, .slice ak nk ck)] _
  refine cw_seq ?_
  refine cw_region ?_
  refine rp 4 (.int .i64 0) ?_
  refine rp 5 (.bool false) ?_
  refine rw_nil ?_
  refine nw_then ?_
  refine cw_seq ?_
  refine cw_region ?_
  refine rp 6 (.int .i64 0) ?_
  refine rw_nil ?_
  refine nw_then ?_
  refine cw_seq ?_
  refine cw_block ?_
  refine cw_loop (X := Nat) (fun j => [(6, .int .i64 ((j : Nat) : Int)), (0, .slice a n c), (1, .slice ak nk ck)]) (fun j v => Bl w v ∧ j ≤ n ∧ atN k (l.drop j) + j = atN k l) (fun j => n - j) 0 (by exact ⟨fun _ => by kernel_rfl, ⟨fun _ => by kernel_rfl, ⟨fun _ => by kernel_rfl, trivial⟩⟩⟩) ⟨hB, Nat.zero_le _, by simp⟩ ?_
  clear hB
  rintro j v ⟨hB, hj1, hA⟩
  by_cases hlt : j < n
  · skip
    obtain ⟨g, off, a1, n1, c1, a2, n2, c2, k1, x1, ea, hej, hc1, hc2, hs1, hs2⟩ := (hl.go hB).at hlt
    subst ea
    have hst := atN_drop (k := k) (l := l) (j := j) (by omega) hej
    have hS : Cl2 v ⟨g, off + j * 2, none⟩ ⟨g, off + j * 2 + 1, none⟩ (.slice a1 n1 c1) (.slice a2 n2 c2) := ⟨hc1, hc2⟩
    refine cw_seq ?_
    refine cw_seq ?_
    refine cw_region ?_
    refine rp 8 (.int .i64 ((j : Nat) : Int)) ?_
    refine rp 9 (.slice (some ⟨g, off, none⟩) n c) ?_
    refine rp 10 (.int .i64 n) ?_
    refine rv 11 (.bool true) (fun _ => ol_conv (v := .bool (decide (((j : Nat) : Int) < (n : Int)))) (by kernel_rfl) (congrArg Value.bool (decide_eq_true (by omega)))) ?_
    refine rw_nil ?_
    refine nw_then ?_
    refine cw_cond_t (fun _ => by kernel_rfl) ?_
    refine cw_skip ?_
    refine nw_then ?_
    refine cw_block ?_
    refine cw_seq ?_
    refine cw_region ?_
    refine rp 12 (.slice (some ⟨g, off, none⟩) n c) ?_
    refine rp 13 (.int .i64 ((j : Nat) : Int)) ?_
    refine rv 14 (.pointer (some ⟨g, off + j * 2, none⟩)) (fun _ => ol_index 26 _ _ g off j n c 2 45 rfl (by kernel_rfl) (by kernel_rfl) hlt Tryz.underlying26 (by kernel_rfl)) ?_
    refine rp 15 (.pointer (some ⟨g, off + j * 2, none⟩)) ?_
    refine rv 16 (.slice a1 n1 c1) (fun _ => ol_cell 27 _ _ _ _ rfl (by kernel_rfl) hS.cx Tryz.underlying27 rfl) ?_
    refine rp 17 (.slice ak nk ck) ?_
    refine rw_call 18 53 #[.slice a1 n1 c1, .slice ak nk ck] (fun _ => by kernel_rfl) (fun _ => by kernel_rfl) (R := fun u w' => u = .bool (lessP k1 k) ∧ Bl (v) w') ((ahead_any hs1 (hk.go hB) (by have := hlen j k1 x1 hej; have := hs1.len; omega))) ?_
    rintro _ u1 ⟨rfl, hb2⟩
    replace hB := hB.go hb2
    replace hS := hS.go hb2
    replace hs1 := hs1.go hb2
    refine rp 7 (.bool (lessP k1 k)) ?_
    refine rw_nil ?_
    refine nw_then ?_
    refine cw_seq ?_
    refine cw_seq ?_
    refine cw_region ?_
    refine rp 19 (.bool (lessP k1 k)) ?_
    refine rp 20 (.bool (!(lessP k1 k))) ?_
    refine rw_nil ?_
    refine nw_then ?_
    by_cases hah : lessP k1 k = true
    · skip
      rw [hah]
      show CW _ _ _ _ _ _ _ [(20, .bool false), (19, .bool true), (7, .bool true), (18, .bool true), (17, .slice ak nk ck), (16, .slice a1 n1 c1), (15, .pointer (some ⟨g, off + j * 2, none⟩)), (14, .pointer (some ⟨g, off + j * 2, none⟩)), (13, .int .i64 ((j : Nat) : Int)), (12, .slice (some ⟨g, off, none⟩) n c), (11, .bool true), (10, .int .i64 n), (9, .slice (some ⟨g, off, none⟩) n c), (8, .int .i64 ((j : Nat) : Int)), (6, .int .i64 ((j : Nat) : Int)), (0, .slice (some ⟨g, off, none⟩) n c), (1, .slice ak nk ck)] _
      refine cw_cond_f (fun _ => by kernel_rfl) ?_
      refine cw_skip ?_
      refine nw_then ?_
      refine cw_region ?_
      refine rp 21 (.int .i64 ((j : Nat) : Int)) ?_
      refine rv 22 (.int .i64 (((j : Nat) : Int) + 1)) (fun _ => ol_conv (v := .int .i64 (IntKind.i64.wrap (((j : Nat) : Int) + 1))) (by kernel_rfl) (congrArg (Value.int .i64) (wrap64 (by omega) (by omega)))) ?_
      refine rp 6 (.int .i64 (((j : Nat) : Int) + 1)) ?_
      refine rw_nil ?_
      refine nw_block ?_
      exact nw_round (E := fun j => [(6, .int .i64 ((j : Nat) : Int)), (0, .slice (some ⟨g, off, none⟩) n c), (1, .slice ak nk ck)]) (R := fun j v => Bl w v ∧ j ≤ n ∧ atN k (l.drop j) + j = atN k l) (μ := fun j => n - j) (x := j) (j + 1) (by exact ⟨fun _ => by kernel_rfl, ⟨fun _ => by kernel_rfl, ⟨fun _ => by kernel_rfl, trivial⟩⟩⟩) ⟨hB, by omega, by rw [if_pos hah] at hst; omega⟩ (by show n - (j + 1) < n - j; omega)
    · skip
      replace hah : lessP k1 k = false := by simpa using hah
      have hjn : atN k l = j := by rw [hst, if_neg (by rw [hah]; exact Bool.false_ne_true)] at hA; omega
      rw [hah]
      show CW _ _ _ _ _ _ _ [(20, .bool true), (19, .bool false), (7, .bool false), (18, .bool false), (17, .slice ak nk ck), (16, .slice a1 n1 c1), (15, .pointer (some ⟨g, off + j * 2, none⟩)), (14, .pointer (some ⟨g, off + j * 2, none⟩)), (13, .int .i64 ((j : Nat) : Int)), (12, .slice (some ⟨g, off, none⟩) n c), (11, .bool true), (10, .int .i64 n), (9, .slice (some ⟨g, off, none⟩) n c), (8, .int .i64 ((j : Nat) : Int)), (6, .int .i64 ((j : Nat) : Int)), (0, .slice (some ⟨g, off, none⟩) n c), (1, .slice ak nk ck)] _
      refine cw_cond_t (fun _ => by kernel_rfl) ?_
      refine cw_exit ?_
      refine nw_exit_then ?_
      refine nw_exit_past rfl ?_
      refine nw_exit_then ?_
      refine nw_exit_here ?_
      refine nw_then ?_
      refine cw_seq ?_
      have hZ : Cl2 u1 ⟨g, off + j * 2, none⟩ ⟨g, off + j * 2 + 1, none⟩ (.slice a1 n1 c1) (.slice a2 n2 c2) ∧ Sk K u1 a1 n1 c1 k1 ∧ Sk K' u1 ak nk ck k := ⟨hS, hs1, hk.go hB⟩
      refine cw_draw (fun v => Cl2 v ⟨g, off + j * 2, none⟩ ⟨g, off + j * 2 + 1, none⟩ (.slice a1 n1 c1) (.slice a2 n2 c2) ∧ Sk K v a1 n1 c1 k1 ∧ Sk K' v ak nk ck k) (by kernel_rfl) (⟨hZ.1.drew, hZ.2.1.drew, hZ.2.2.drew⟩) ?_
      replace hB := hB.drew
      refine dt 0 23 (.int .i64 ((j : Nat) : Int)) (fun v hv _ => by kernel_rfl) (show Cl2 u1.drew ⟨g, off + j * 2, none⟩ ⟨g, off + j * 2 + 1, none⟩ (.slice a1 n1 c1) (.slice a2 n2 c2) ∧ Sk K u1.drew a1 n1 c1 k1 ∧ Sk K' u1.drew ak nk ck k from ⟨hZ.1.drew, hZ.2.1.drew, hZ.2.2.drew⟩) ?_
      refine dt 1 24 (.int .i64 ((j : Nat) : Int)) (fun v hv _ => by kernel_rfl) (show Cl2 u1.drew ⟨g, off + j * 2, none⟩ ⟨g, off + j * 2 + 1, none⟩ (.slice a1 n1 c1) (.slice a2 n2 c2) ∧ Sk K u1.drew a1 n1 c1 k1 ∧ Sk K' u1.drew ak nk ck k from ⟨hZ.1.drew, hZ.2.1.drew, hZ.2.2.drew⟩) ?_
      refine dt 2 25 (.slice (some ⟨g, off, none⟩) n c) (fun v hv _ => by kernel_rfl) (show Cl2 u1.drew ⟨g, off + j * 2, none⟩ ⟨g, off + j * 2 + 1, none⟩ (.slice a1 n1 c1) (.slice a2 n2 c2) ∧ Sk K u1.drew a1 n1 c1 k1 ∧ Sk K' u1.drew ak nk ck k from ⟨hZ.1.drew, hZ.2.1.drew, hZ.2.2.drew⟩) ?_
      refine dt 3 26 (.int .i64 n) (fun v hv _ => by kernel_rfl) (show Cl2 u1.drew ⟨g, off + j * 2, none⟩ ⟨g, off + j * 2 + 1, none⟩ (.slice a1 n1 c1) (.slice a2 n2 c2) ∧ Sk K u1.drew a1 n1 c1 k1 ∧ Sk K' u1.drew ak nk ck k from ⟨hZ.1.drew, hZ.2.1.drew, hZ.2.2.drew⟩) ?_
      refine dt 4 27 (.bool true) (fun v hv => (fun _ => ol_conv (v := .bool (decide (((j : Nat) : Int) < (n : Int)))) (by kernel_rfl) (congrArg Value.bool (decide_eq_true (by omega))))) (show Cl2 u1.drew ⟨g, off + j * 2, none⟩ ⟨g, off + j * 2 + 1, none⟩ (.slice a1 n1 c1) (.slice a2 n2 c2) ∧ Sk K u1.drew a1 n1 c1 k1 ∧ Sk K' u1.drew ak nk ck k from ⟨hZ.1.drew, hZ.2.1.drew, hZ.2.2.drew⟩) ?_
      refine dt 5 28 (.bool true) (fun v hv _ => by kernel_rfl) (show Cl2 u1.drew ⟨g, off + j * 2, none⟩ ⟨g, off + j * 2 + 1, none⟩ (.slice a1 n1 c1) (.slice a2 n2 c2) ∧ Sk K u1.drew a1 n1 c1 k1 ∧ Sk K' u1.drew ak nk ck k from ⟨hZ.1.drew, hZ.2.1.drew, hZ.2.2.drew⟩) ?_
      refine dt 6 29 (.slice (some ⟨g, off, none⟩) n c) (fun v hv _ => by kernel_rfl) (show Cl2 u1.drew ⟨g, off + j * 2, none⟩ ⟨g, off + j * 2 + 1, none⟩ (.slice a1 n1 c1) (.slice a2 n2 c2) ∧ Sk K u1.drew a1 n1 c1 k1 ∧ Sk K' u1.drew ak nk ck k from ⟨hZ.1.drew, hZ.2.1.drew, hZ.2.2.drew⟩) ?_
      refine dt 7 30 (.int .i64 ((j : Nat) : Int)) (fun v hv _ => by kernel_rfl) (show Cl2 u1.drew ⟨g, off + j * 2, none⟩ ⟨g, off + j * 2 + 1, none⟩ (.slice a1 n1 c1) (.slice a2 n2 c2) ∧ Sk K u1.drew a1 n1 c1 k1 ∧ Sk K' u1.drew ak nk ck k from ⟨hZ.1.drew, hZ.2.1.drew, hZ.2.2.drew⟩) ?_
      refine dt 8 31 (.pointer (some ⟨g, off + j * 2, none⟩)) (fun v hv _ => ol_index 26 _ _ g off j n c 2 45 rfl (by kernel_rfl) (by kernel_rfl) hlt Tryz.underlying26 (by kernel_rfl)) (show Cl2 u1.drew ⟨g, off + j * 2, none⟩ ⟨g, off + j * 2 + 1, none⟩ (.slice a1 n1 c1) (.slice a2 n2 c2) ∧ Sk K u1.drew a1 n1 c1 k1 ∧ Sk K' u1.drew ak nk ck k from ⟨hZ.1.drew, hZ.2.1.drew, hZ.2.2.drew⟩) ?_
      refine dt 9 32 (.pointer (some ⟨g, off + j * 2, none⟩)) (fun v hv _ => by kernel_rfl) (show Cl2 u1.drew ⟨g, off + j * 2, none⟩ ⟨g, off + j * 2 + 1, none⟩ (.slice a1 n1 c1) (.slice a2 n2 c2) ∧ Sk K u1.drew a1 n1 c1 k1 ∧ Sk K' u1.drew ak nk ck k from ⟨hZ.1.drew, hZ.2.1.drew, hZ.2.2.drew⟩) ?_
      refine dt 10 33 (.slice a1 n1 c1) (fun v hv _ => ol_cell 27 _ _ _ _ rfl (by kernel_rfl) hv.1.cx Tryz.underlying27 rfl) (show Cl2 u1.drew ⟨g, off + j * 2, none⟩ ⟨g, off + j * 2 + 1, none⟩ (.slice a1 n1 c1) (.slice a2 n2 c2) ∧ Sk K u1.drew a1 n1 c1 k1 ∧ Sk K' u1.drew ak nk ck k from ⟨hZ.1.drew, hZ.2.1.drew, hZ.2.2.drew⟩) ?_
      refine dt 11 34 (.string (strOfNums k1)) (fun v hv _ => hv.2.1.run_str _ _ _ rfl (by kernel_rfl)) (show Cl2 u1.drew ⟨g, off + j * 2, none⟩ ⟨g, off + j * 2 + 1, none⟩ (.slice a1 n1 c1) (.slice a2 n2 c2) ∧ Sk K u1.drew a1 n1 c1 k1 ∧ Sk K' u1.drew ak nk ck k from ⟨hZ.1.drew, hZ.2.1.drew, hZ.2.2.drew⟩) ?_
      refine dt 12 35 (.slice ak nk ck) (fun v hv _ => by kernel_rfl) (show Cl2 u1.drew ⟨g, off + j * 2, none⟩ ⟨g, off + j * 2 + 1, none⟩ (.slice a1 n1 c1) (.slice a2 n2 c2) ∧ Sk K u1.drew a1 n1 c1 k1 ∧ Sk K' u1.drew ak nk ck k from ⟨hZ.1.drew, hZ.2.1.drew, hZ.2.2.drew⟩) ?_
      refine dt 13 36 (.string (strOfNums k)) (fun v hv _ => hv.2.2.run_str _ _ _ rfl (by kernel_rfl)) (show Cl2 u1.drew ⟨g, off + j * 2, none⟩ ⟨g, off + j * 2 + 1, none⟩ (.slice a1 n1 c1) (.slice a2 n2 c2) ∧ Sk K u1.drew a1 n1 c1 k1 ∧ Sk K' u1.drew ak nk ck k from ⟨hZ.1.drew, hZ.2.1.drew, hZ.2.2.drew⟩) ?_
      refine dt 14 37 (.bool (decide (k1 = k))) (fun v hv _ => ol_eqs 9 _ _ _ _ _ rfl (by kernel_rfl) (by kernel_rfl) (strs_eq hs1.ag.b hk.ag.b)) (show Cl2 u1.drew ⟨g, off + j * 2, none⟩ ⟨g, off + j * 2 + 1, none⟩ (.slice a1 n1 c1) (.slice a2 n2 c2) ∧ Sk K u1.drew a1 n1 c1 k1 ∧ Sk K' u1.drew ak nk ck k from ⟨hZ.1.drew, hZ.2.1.drew, hZ.2.2.drew⟩) ?_
      refine dt 15 38 (.bool (decide (k1 = k))) (fun v hv _ => by kernel_rfl) (show Cl2 u1.drew ⟨g, off + j * 2, none⟩ ⟨g, off + j * 2 + 1, none⟩ (.slice a1 n1 c1) (.slice a2 n2 c2) ∧ Sk K u1.drew a1 n1 c1 k1 ∧ Sk K' u1.drew ak nk ck k from ⟨hZ.1.drew, hZ.2.1.drew, hZ.2.2.drew⟩) ?_
      refine dt 16 4 (.int .i64 ((j : Nat) : Int)) (fun v hv _ => by kernel_rfl) (show Cl2 u1.drew ⟨g, off + j * 2, none⟩ ⟨g, off + j * 2 + 1, none⟩ (.slice a1 n1 c1) (.slice a2 n2 c2) ∧ Sk K u1.drew a1 n1 c1 k1 ∧ Sk K' u1.drew ak nk ck k from ⟨hZ.1.drew, hZ.2.1.drew, hZ.2.2.drew⟩) ?_
      refine dt 17 5 (.bool (decide (k1 = k))) (fun v hv _ => by kernel_rfl) (show Cl2 u1.drew ⟨g, off + j * 2, none⟩ ⟨g, off + j * 2 + 1, none⟩ (.slice a1 n1 c1) (.slice a2 n2 c2) ∧ Sk K u1.drew a1 n1 c1 k1 ∧ Sk K' u1.drew ak nk ck k from ⟨hZ.1.drew, hZ.2.1.drew, hZ.2.2.drew⟩) ?_
      refine dw_done (by kernel_rfl) ?_
      refine nw_then ?_
      refine cw_ret ?_
      exact nw_ret_body (.tuple #[.int .i64 ((j : Nat) : Int), .bool (decide (k1 = k))]) (fun _ => by kernel_rfl) ⟨_, rfl, by rw [hjn, isAt_of hjn hej], hB⟩
  have hjn : atN k l = l.length := by rw [List.drop_eq_nil_of_le (by omega)] at hA; simp only [atN] at hA; omega
  have hS : True := trivial
  refine cw_seq ?_
  refine cw_seq ?_
  refine cw_region ?_
  refine rp 8 (.int .i64 ((j : Nat) : Int)) ?_
  refine rp 9 (.slice a n c) ?_
  refine rp 10 (.int .i64 n) ?_
  refine rv 11 (.bool false) (fun _ => ol_conv (v := .bool (decide (((j : Nat) : Int) < (n : Int)))) (by kernel_rfl) (congrArg Value.bool (decide_eq_false (by omega)))) ?_
  refine rw_nil ?_
  refine nw_then ?_
  refine cw_cond_f (fun _ => by kernel_rfl) ?_
  refine cw_exit ?_
  refine nw_exit_then ?_
  refine nw_exit_then ?_
  refine nw_exit_here ?_
  refine nw_then ?_
  refine cw_seq ?_
  refine cw_draw (fun _ => True) (by kernel_rfl) (trivial) ?_
  replace hB := hB.drew
  refine dt 0 23 (.int .i64 ((j : Nat) : Int)) (fun v hv _ => by kernel_rfl) trivial ?_
  refine dt 1 24 (.int .i64 ((j : Nat) : Int)) (fun v hv _ => by kernel_rfl) trivial ?_
  refine dt 2 25 (.slice a n c) (fun v hv _ => by kernel_rfl) trivial ?_
  refine dt 3 26 (.int .i64 n) (fun v hv _ => by kernel_rfl) trivial ?_
  refine dt 4 27 (.bool false) (fun v hv => (fun _ => ol_conv (v := .bool (decide (((j : Nat) : Int) < (n : Int)))) (by kernel_rfl) (congrArg Value.bool (decide_eq_false (by omega))))) trivial ?_
  refine dt 5 28 (.bool false) (fun v hv _ => by kernel_rfl) trivial ?_
  refine df 6 29 trivial ?_
  refine df 7 30 trivial ?_
  refine df 8 31 trivial ?_
  refine df 9 32 trivial ?_
  refine df 10 33 trivial ?_
  refine df 11 34 trivial ?_
  refine df 12 35 trivial ?_
  refine df 13 36 trivial ?_
  refine df 14 37 trivial ?_
  refine dt 15 38 (.bool false) (fun v hv _ => by kernel_rfl) trivial ?_
  refine dt 16 4 (.int .i64 ((j : Nat) : Int)) (fun v hv _ => by kernel_rfl) trivial ?_
  refine dt 17 5 (.bool false) (fun v hv _ => by kernel_rfl) trivial ?_
  refine dw_done (by kernel_rfl) ?_
  refine nw_then ?_
  refine cw_ret ?_
  exact nw_ret_body (.tuple #[.int .i64 ((j : Nat) : Int), .bool false]) (fun _ => by kernel_rfl) ⟨_, rfl, by rw [isAt_end hjn, hjn, show j = l.length from by omega], hB⟩
end Go.Proofs.YtalhnnjpjaeakaaGreat
/- The document's Put, Delete on a list of keys and values. -/
namespace Go.Proofs.YtalhnnjpjaeakaaGreat
open Go.RowKit
open Tr
set_option linter.unusedVariables false
set_option maxRecDepth 100000
theorem ownB_new0 {w w' : World} {g base : Nat} (h : New w w' g #[] 5) (hb : base ≤ w.heap.size) : OwnB w' base (.slice (some ⟨g, 0, none⟩) 0 0) [] := ⟨rfl, .inr ⟨g, 0, #[], rfl, by rw [h.hg]; exact hb, h.row, Nat.le_refl _, by unfold maxLen; omega, rfl, rfl⟩⟩
theorem ol_appP {w w' : World} {v u r : Value} {ρ : Operand → Value} {o : Oper} (hr : ∀ ty, (Builtin.append_ #[26, 26] ty #[v, u]).run Tryz.prog w = .ok r w') (x y : Operand) (ho : o.op = .call { callee := .builtin .append, args := #[x, y], argTypes := #[26, 26] }) (hx : ρ x = v) (hy : ρ y = u) : (execOp ρ o).run Tryz.prog w = .ok (.value r) w' := by
  unfold execOp
  simp only [ho, resolve, invoke, builtin, Sem.run_bind, Sem.run_pure, Result.andThen_ok, List.map_toArray, List.map_cons, List.map_nil, hx, hy, hr]
set_option maxHeartbeats 2000000 in
theorem rput_long {K K' : Nat → Prop} {w : World} {a : Option Addr} {n c : Nat} {vs : List (Value × Value)} {l : PList} (hl : PAt K w a n c vs l) {ak : Option Addr} {nk ck : Nat} {k : List Int} (hk : Sk K' w ak nk ck k) (hb : n ≤ 2600000000000) {K2 : Nat → Prop} {av : Option Addr} {nv cv : Nat} {x : List Int} (hx : Sk K2 w av nv cv x) (hlen : ∀ (j : Nat) k x, l[j]? = some (k, x) → k.length ≤ 1000000) (hn : 32 < nk) :
    Calls Tryz.prog 16 #[.slice a n c, .slice ak nk ck, .slice av nv cv] w fun e w' => ∃ u, e = .returned u ∧ (fun u w' => (∃ a n c vs, u = .tuple #[.slice a n c, .int .i64 (putE k x)] ∧ PAt (fun b => K b ∨ w.heap.size ≤ b) w' a n c vs (putL l k x)) ∧ Bl w w') u w' := by
  have hB := Bl.refl w
  have lk := hk.len
  have lx := hx.len
  have ll := hl.ll
  refine cw_enter Tryz.func16 rfl 53 rfl ?_
  show CW _ _ _ _ _ _ _ [(0, .slice a n c), (1, .slice ak nk ck), (2, .slice av nv cv)] _
  refine cw_seq ?_
  refine cw_region ?_
  refine rp 6 (.slice none 0 0) ?_
  refine rp 7 (.int .i64 0) ?_
  refine rw_nil ?_
  refine nw_then ?_
  refine cw_seq ?_
  refine cw_seq ?_
  refine cw_region ?_
  refine rp 11 (.slice ak nk ck) ?_
  refine rp 12 (.int .i64 nk) ?_
  refine rv 13 (.bool true) (fun _ => ol_conv (v := .bool (decide ((nk : Int) > (32 : Int)))) (by kernel_rfl) (congrArg Value.bool (decide_eq_true (by omega)))) ?_
  refine rw_nil ?_
  refine nw_then ?_
  refine cw_cond_t (fun _ => by kernel_rfl) ?_
  refine cw_seq ?_
  refine cw_region ?_
  refine rp 14 (.slice a n c) ?_
  refine rp 6 (.slice a n c) ?_
  refine rp 7 (.int .i64 70) ?_
  refine rw_nil ?_
  refine nw_then ?_
  refine cw_ret ?_
  refine nw_ret_then ?_
  exact nw_ret_body (.tuple #[.slice a n c, .int .i64 70]) (fun _ => by kernel_rfl) ⟨_, rfl, ⟨a, n, c, vs, by rw [show putE k x = 70 from by unfold putE; rw [if_neg (by omega)]], by unfold putL; rw [if_neg (by omega)]; exact (hl.go hB).mono (fun _ h => .inl h)⟩, hB⟩
set_option maxHeartbeats 2000000 in
theorem rput_v0 {K K' : Nat → Prop} {w : World} {a : Option Addr} {n c : Nat} {vs : List (Value × Value)} {l : PList} (hl : PAt K w a n c vs l) {ak : Option Addr} {nk ck : Nat} {k : List Int} (hk : Sk K' w ak nk ck k) (hb : n ≤ 2600000000000) {K2 : Nat → Prop} {av : Option Addr} {nv cv : Nat} {x : List Int} (hx : Sk K2 w av nv cv x) (hlen : ∀ (j : Nat) k x, l[j]? = some (k, x) → k.length ≤ 1000000) (hn : nk ≤ 32) (hv : nv < 1) :
    Calls Tryz.prog 16 #[.slice a n c, .slice ak nk ck, .slice av nv cv] w fun e w' => ∃ u, e = .returned u ∧ (fun u w' => (∃ a n c vs, u = .tuple #[.slice a n c, .int .i64 (putE k x)] ∧ PAt (fun b => K b ∨ w.heap.size ≤ b) w' a n c vs (putL l k x)) ∧ Bl w w') u w' := by
  have hB := Bl.refl w
  have lk := hk.len
  have lx := hx.len
  have ll := hl.ll
  refine cw_enter Tryz.func16 rfl 53 rfl ?_
  show CW _ _ _ _ _ _ _ [(0, .slice a n c), (1, .slice ak nk ck), (2, .slice av nv cv)] _
  refine cw_seq ?_
  refine cw_region ?_
  refine rp 6 (.slice none 0 0) ?_
  refine rp 7 (.int .i64 0) ?_
  refine rw_nil ?_
  refine nw_then ?_
  refine cw_seq ?_
  refine cw_seq ?_
  refine cw_region ?_
  refine rp 11 (.slice ak nk ck) ?_
  refine rp 12 (.int .i64 nk) ?_
  refine rv 13 (.bool false) (fun _ => ol_conv (v := .bool (decide ((nk : Int) > (32 : Int)))) (by kernel_rfl) (congrArg Value.bool (decide_eq_false (by omega)))) ?_
  refine rw_nil ?_
  refine nw_then ?_
  refine cw_cond_f (fun _ => by kernel_rfl) ?_
  refine cw_skip ?_
  refine nw_then ?_
  refine cw_seq ?_
  refine cw_seq ?_
  refine cw_region ?_
  refine rp 15 (.slice av nv cv) ?_
  refine rp 16 (.int .i64 nv) ?_
  refine rv 17 (.bool true) (fun _ => ol_conv (v := .bool (decide ((nv : Int) < (1 : Int)))) (by kernel_rfl) (congrArg Value.bool (decide_eq_true (by omega)))) ?_
  refine rp 18 (.bool true) ?_
  refine rw_off 19 (fun _ => by kernel_rfl) ?_
  refine rw_off 20 (fun _ => by kernel_rfl) ?_
  refine rw_off 21 (fun _ => by kernel_rfl) ?_
  refine rp 22 (.bool true) ?_
  refine rw_nil ?_
  refine nw_then ?_
  refine cw_cond_t (fun _ => by kernel_rfl) ?_
  refine cw_seq ?_
  refine cw_region ?_
  refine rp 23 (.slice a n c) ?_
  refine rp 6 (.slice a n c) ?_
  refine rp 7 (.int .i64 71) ?_
  refine rw_nil ?_
  refine nw_then ?_
  refine cw_ret ?_
  refine nw_ret_then ?_
  exact nw_ret_body (.tuple #[.slice a n c, .int .i64 71]) (fun _ => by kernel_rfl) ⟨_, rfl, ⟨a, n, c, vs, by rw [show putE k x = 71 from by unfold putE; rw [if_pos (by omega), if_neg (by omega)]], by unfold putL; rw [if_neg (by omega)]; exact (hl.go hB).mono (fun _ h => .inl h)⟩, hB⟩
set_option maxHeartbeats 2000000 in
theorem rput_vf {K K' : Nat → Prop} {w : World} {a : Option Addr} {n c : Nat} {vs : List (Value × Value)} {l : PList} (hl : PAt K w a n c vs l) {ak : Option Addr} {nk ck : Nat} {k : List Int} (hk : Sk K' w ak nk ck k) (hb : n ≤ 2600000000000) {K2 : Nat → Prop} {av : Option Addr} {nv cv : Nat} {x : List Int} (hx : Sk K2 w av nv cv x) (hlen : ∀ (j : Nat) k x, l[j]? = some (k, x) → k.length ≤ 1000000) (hn : nk ≤ 32) (hv : 256 < nv) :
    Calls Tryz.prog 16 #[.slice a n c, .slice ak nk ck, .slice av nv cv] w fun e w' => ∃ u, e = .returned u ∧ (fun u w' => (∃ a n c vs, u = .tuple #[.slice a n c, .int .i64 (putE k x)] ∧ PAt (fun b => K b ∨ w.heap.size ≤ b) w' a n c vs (putL l k x)) ∧ Bl w w') u w' := by
  have hB := Bl.refl w
  have lk := hk.len
  have lx := hx.len
  have ll := hl.ll
  refine cw_enter Tryz.func16 rfl 53 rfl ?_
  show CW _ _ _ _ _ _ _ [(0, .slice a n c), (1, .slice ak nk ck), (2, .slice av nv cv)] _
  refine cw_seq ?_
  refine cw_region ?_
  refine rp 6 (.slice none 0 0) ?_
  refine rp 7 (.int .i64 0) ?_
  refine rw_nil ?_
  refine nw_then ?_
  refine cw_seq ?_
  refine cw_seq ?_
  refine cw_region ?_
  refine rp 11 (.slice ak nk ck) ?_
  refine rp 12 (.int .i64 nk) ?_
  refine rv 13 (.bool false) (fun _ => ol_conv (v := .bool (decide ((nk : Int) > (32 : Int)))) (by kernel_rfl) (congrArg Value.bool (decide_eq_false (by omega)))) ?_
  refine rw_nil ?_
  refine nw_then ?_
  refine cw_cond_f (fun _ => by kernel_rfl) ?_
  refine cw_skip ?_
  refine nw_then ?_
  refine cw_seq ?_
  refine cw_seq ?_
  refine cw_region ?_
  refine rp 15 (.slice av nv cv) ?_
  refine rp 16 (.int .i64 nv) ?_
  refine rv 17 (.bool false) (fun _ => ol_conv (v := .bool (decide ((nv : Int) < (1 : Int)))) (by kernel_rfl) (congrArg Value.bool (decide_eq_false (by omega)))) ?_
  refine rp 18 (.bool false) ?_
  refine rp 19 (.slice av nv cv) ?_
  refine rp 20 (.int .i64 nv) ?_
  refine rv 21 (.bool true) (fun _ => ol_conv (v := .bool (decide ((nv : Int) > (256 : Int)))) (by kernel_rfl) (congrArg Value.bool (decide_eq_true (by omega)))) ?_
  refine rp 22 (.bool true) ?_
  refine rw_nil ?_
  refine nw_then ?_
  refine cw_cond_t (fun _ => by kernel_rfl) ?_
  refine cw_seq ?_
  refine cw_region ?_
  refine rp 23 (.slice a n c) ?_
  refine rp 6 (.slice a n c) ?_
  refine rp 7 (.int .i64 71) ?_
  refine rw_nil ?_
  refine nw_then ?_
  refine cw_ret ?_
  refine nw_ret_then ?_
  exact nw_ret_body (.tuple #[.slice a n c, .int .i64 71]) (fun _ => by kernel_rfl) ⟨_, rfl, ⟨a, n, c, vs, by rw [show putE k x = 71 from by unfold putE; rw [if_pos (by omega), if_neg (by omega)]], by unfold putL; rw [if_neg (by omega)]; exact (hl.go hB).mono (fun _ h => .inl h)⟩, hB⟩
set_option maxHeartbeats 2000000 in
theorem rput_is {K K' : Nat → Prop} {w : World} {a : Option Addr} {n c : Nat} {vs : List (Value × Value)} {l : PList} (hl : PAt K w a n c vs l) {ak : Option Addr} {nk ck : Nat} {k : List Int} (hk : Sk K' w ak nk ck k) (hb : n ≤ 2600000000000) {K2 : Nat → Prop} {av : Option Addr} {nv cv : Nat} {x : List Int} (hx : Sk K2 w av nv cv x) (hlen : ∀ (j : Nat) k x, l[j]? = some (k, x) → k.length ≤ 1000000) (hn : nk ≤ 32) (hv1 : 0 < nv) (hv2 : nv ≤ 256) (hat : isAt k l = true) :
    Calls Tryz.prog 16 #[.slice a n c, .slice ak nk ck, .slice av nv cv] w fun e w' => ∃ u, e = .returned u ∧ (fun u w' => (∃ a n c vs, u = .tuple #[.slice a n c, .int .i64 (putE k x)] ∧ PAt (fun b => K b ∨ w.heap.size ≤ b) w' a n c vs (putL l k x)) ∧ Bl w w') u w' := by
  have hB := Bl.refl w
  have lk := hk.len
  have lx := hx.len
  have ll := hl.ll
  refine cw_enter Tryz.func16 rfl 53 rfl ?_
  show CW _ _ _ _ _ _ _ [(0, .slice a n c), (1, .slice ak nk ck), (2, .slice av nv cv)] _
  refine cw_seq ?_
  refine cw_region ?_
  refine rp 6 (.slice none 0 0) ?_
  refine rp 7 (.int .i64 0) ?_
  refine rw_nil ?_
  refine nw_then ?_
  refine cw_seq ?_
  refine cw_seq ?_
  refine cw_region ?_
  refine rp 11 (.slice ak nk ck) ?_
  refine rp 12 (.int .i64 nk) ?_
  refine rv 13 (.bool false) (fun _ => ol_conv (v := .bool (decide ((nk : Int) > (32 : Int)))) (by kernel_rfl) (congrArg Value.bool (decide_eq_false (by omega)))) ?_
  refine rw_nil ?_
  refine nw_then ?_
  refine cw_cond_f (fun _ => by kernel_rfl) ?_
  refine cw_skip ?_
  refine nw_then ?_
  refine cw_seq ?_
  refine cw_seq ?_
  refine cw_region ?_
  refine rp 15 (.slice av nv cv) ?_
  refine rp 16 (.int .i64 nv) ?_
  refine rv 17 (.bool false) (fun _ => ol_conv (v := .bool (decide ((nv : Int) < (1 : Int)))) (by kernel_rfl) (congrArg Value.bool (decide_eq_false (by omega)))) ?_
  refine rp 18 (.bool false) ?_
  refine rp 19 (.slice av nv cv) ?_
  refine rp 20 (.int .i64 nv) ?_
  refine rv 21 (.bool false) (fun _ => ol_conv (v := .bool (decide ((nv : Int) > (256 : Int)))) (by kernel_rfl) (congrArg Value.bool (decide_eq_false (by omega)))) ?_
  refine rp 22 (.bool false) ?_
  refine rw_nil ?_
  refine nw_then ?_
  refine cw_cond_f (fun _ => by kernel_rfl) ?_
  refine cw_skip ?_
  refine nw_then ?_
  refine cw_seq ?_
  refine cw_region ?_
  refine rp 25 (.slice a n c) ?_
  refine rp 26 (.slice ak nk ck) ?_
  refine rw_call 27 37 #[.slice a n c, .slice ak nk ck] (fun _ => by kernel_rfl) (fun _ => by kernel_rfl) (R := fun u w' => u = .tuple #[.int .i64 ((atN k l : Nat) : Int), .bool (isAt k l)] ∧ Bl (w) w') ((at_any (hl.go hB) (hk.go hB) hb hlen)) ?_
  rintro _ u1 ⟨rfl, hb2⟩
  replace hB := hB.go hb2
  rw [hat]
  have hle := atN_le k l
  have hl0 := hl.old
  have hlt : atN k l < n := by by_cases h : atN k l < n; exact h; rw [isAt_end (by omega)] at hat; cases hat
  refine rp 24 (.tuple #[.int .i64 ((atN k l : Nat) : Int), .bool true]) ?_
  refine rp 28 (.int .i64 ((atN k l : Nat) : Int)) ?_
  refine rp 29 (.bool true) ?_
  refine rp 8 (.int .i64 ((atN k l : Nat) : Int)) ?_
  refine rp 9 (.bool true) ?_
  refine rw_nil ?_
  refine nw_then ?_
  refine cw_seq ?_
  refine cw_region ?_
  refine rw_newS 30 #[] 45 0 (fun _ => by kernel_rfl) (fun _ => by kernel_rfl) ?_
  intro w0 g0 hn0
  have hO : OwnL (fun b => K b ∨ w.heap.size ≤ b) w0 w.heap.size (.slice (some ⟨g0, 0, none⟩) 0 0) [] := OwnL.new hn0 hB.size (fun b hb => .inr hb)
  replace hB := hB.go hn0.below
  refine rp 31 (.slice a n c) ?_
  refine rp 32 (.int .i64 ((atN k l : Nat) : Int)) ?_
  obtain ⟨a1, n1, c1, hc1, hP1⟩ := (hl0.go hB).cutTo (atN k l) (by omega)
  refine rv 33 (.slice a1 n1 c1) (fun _ => hc1 _ _ _ _ _ rfl (by kernel_rfl) (by kernel_rfl)) ?_
  have ht1 := hP1.ll
  obtain ⟨VA, wA, hrA, hOA, hbA⟩ := appP hO hP1 (fun b hb => ⟨fun e => by have := (hO.own b e).1; have := hb.2; omega, .inl hb.1⟩) (by rw [List.length_take] at ht1; simp; omega) hB.size
  refine rw_v 34 VA (fun _ => by kernel_rfl) (fun _ => ol_appP hrA _ _ rfl (by kernel_rfl) (by kernel_rfl)) ?_
  replace hB : Bl w wA := Below.trans hB hbA
  replace hO := hOA
  rw [List.nil_append] at hO
  refine rp 10 (VA) ?_
  refine rw_nil ?_
  have hOown := hO.own
  have hwA := hB.size
  refine nw_then ?_
  refine cw_seq ?_
  refine cw_region ?_
  refine rp 35 (VA) ?_
  have hzk := Nat.le_refl (World.heap wA).size
  refine rw_newS 36 #[] 5 0 (fun _ => by kernel_rfl) (fun _ => by kernel_rfl) ?_
  intro wk gk hnk
  have hqk := ownB_new0 hnk (Nat.le_refl _)
  refine rp 37 (.slice ak nk ck) ?_
  obtain ⟨Vk, wkb, hrk, hok, hbk⟩ := app_run hqk (hk.go (hB.go hnk.below)).ag (by simp; omega) (by have := hnk.below.size; omega)
  rw [List.nil_append] at hok
  refine rw_v 38 Vk (fun _ => by kernel_rfl) (fun _ => ol_app hrk _ _ rfl (by kernel_rfl) (by kernel_rfl)) ?_
  have hfk : Below wA.heap.size wA wkb := hnk.below.trans hbk
  obtain ⟨bk, dk, rfl, hsk⟩ := hok.sk (K := fun b => wA.heap.size ≤ b) hk.ag.b (fun b hb => hb)
  replace hB := hB.go hfk
  replace hO := hO.far hfk
  have hzx := Nat.le_refl (World.heap wkb).size
  refine rw_newS 39 #[] 5 0 (fun _ => by kernel_rfl) (fun _ => by kernel_rfl) ?_
  intro wx gx hnx
  have hqx := ownB_new0 hnx (Nat.le_refl _)
  refine rp 40 (.slice av nv cv) ?_
  obtain ⟨Vx, wxb, hrx, hox, hbx⟩ := app_run hqx (hx.go (hB.go hnx.below)).ag (by simp; omega) (by have := hnx.below.size; omega)
  rw [List.nil_append] at hox
  refine rw_v 41 Vx (fun _ => by kernel_rfl) (fun _ => ol_app hrx _ _ rfl (by kernel_rfl) (by kernel_rfl)) ?_
  have hfx : Below wkb.heap.size wkb wxb := hnx.below.trans hbx
  obtain ⟨bx, dx, rfl, hsx⟩ := hox.sk (K := fun b => wkb.heap.size ≤ b) hx.ag.b (fun b hb => hb)
  replace hB := hB.go hfx
  replace hO := hO.far hfx
  replace hsk := hsk.go hfx
  refine rp 42 (.agg #[.slice bk k.length dk, .slice bx x.length dx]) ?_
  have hown := hO.own
  have hsx2 := hfx.size
  have hsk2 := hfk.size
  refine rw_newS 43 #[.slice bk k.length dk, .slice bx x.length dx] 45 1 (fun _ => by kernel_rfl) (fun _ => by kernel_rfl) ?_
  intro wL gL hnL
  have hP2 := PAt.one hnL (hsk.mono (K' := fun b => wA.heap.size ≤ b) (fun b hb => hb)) (hsx.mono (K' := fun b => wA.heap.size ≤ b) (fun b hb => by omega)) (by have := hnL.hg; omega)
  replace hB := hB.go hnL.below
  have hOA := hO
  replace hO := hO.far hnL.below
  have hoA := hOown
  obtain ⟨VC, wC, hrC, hOC, hbC⟩ := appP hO hP2 (fun b hb => ⟨fun e => by have := (hoA b e).2; omega, .inr (by omega)⟩) (by simp; omega) hB.size
  refine rw_v 44 VC (fun _ => by kernel_rfl) (fun _ => ol_appP hrC _ _ rfl (by kernel_rfl) (by kernel_rfl)) ?_
  replace hB : Bl w wC := Below.trans hB hbC
  replace hO := hOC
  refine rp 10 (VC) ?_
  refine rw_nil ?_
  refine nw_then ?_
  refine cw_seq ?_
  refine cw_seq ?_
  refine cw_region ?_
  refine rp 45 (.bool true) ?_
  refine rw_nil ?_
  refine nw_then ?_
  refine cw_cond_t (fun _ => by kernel_rfl) ?_
  refine cw_region ?_
  refine rp 46 (.int .i64 ((atN k l : Nat) : Int)) ?_
  refine rv 47 (.int .i64 ((atN k l + 1 : Nat) : Int)) (fun _ => ol_conv (v := .int .i64 (IntKind.i64.wrap (((atN k l : Nat) : Int) + 1))) (by kernel_rfl) (congrArg (Value.int .i64) (by rw [wrap64 (by omega) (by omega)]; omega))) ?_
  refine rp 8 (.int .i64 ((atN k l + 1 : Nat) : Int)) ?_
  refine rw_nil ?_
  refine nw_then ?_
  refine cw_seq ?_
  refine cw_region ?_
  refine rp 48 (VC) ?_
  refine rp 49 (.slice a n c) ?_
  refine rp 50 (.int .i64 ((atN k l + 1 : Nat) : Int)) ?_
  obtain ⟨a3, n3, c3, hc3, hP3⟩ := (hl0.go hB).cutFrom (atN k l + 1) (by omega)
  refine rv 51 (.slice a3 n3 c3) (fun _ => hc3 _ _ _ _ _ rfl (by kernel_rfl) (by kernel_rfl)) ?_
  have ht3 := hP3.ll
  obtain ⟨VE, wE, hrE, hOE, hbE⟩ := appP hO hP3 (fun b hb => ⟨fun e => by have := (hO.own b e).1; have := hb.2; omega, .inl hb.1⟩) (by rw [List.length_drop] at ht3; simp; omega) hB.size
  refine rw_v 52 VE (fun _ => by kernel_rfl) (fun _ => ol_appP hrE _ _ rfl (by kernel_rfl) (by kernel_rfl)) ?_
  replace hB : Bl w wE := Below.trans hB hbE
  replace hO := hOE
  refine rp 6 (VE) ?_
  refine rp 7 (.int .i64 0) ?_
  refine rw_nil ?_
  refine nw_then ?_
  refine cw_ret ?_
  have hpl : putL l k x = l.take (atN k l) ++ [(k, x)] ++ l.drop (atN k l + 1) := by unfold putL; rw [if_pos (by omega), putR_cut, hat]; rfl
  rw [← hpl] at hO
  obtain ⟨aF, cF, vsF, eF, hF⟩ := hO.pat
  subst eF
  exact nw_ret_body (.tuple #[.slice aF (putL l k x).length cF, .int .i64 0]) (fun _ => by kernel_rfl) ⟨_, rfl, ⟨aF, _, cF, vsF, by rw [show putE k x = 0 from by unfold putE; rw [if_pos (by omega), if_pos (by omega)]], hF⟩, hB⟩
set_option maxHeartbeats 2000000 in
theorem rput_not {K K' : Nat → Prop} {w : World} {a : Option Addr} {n c : Nat} {vs : List (Value × Value)} {l : PList} (hl : PAt K w a n c vs l) {ak : Option Addr} {nk ck : Nat} {k : List Int} (hk : Sk K' w ak nk ck k) (hb : n ≤ 2600000000000) {K2 : Nat → Prop} {av : Option Addr} {nv cv : Nat} {x : List Int} (hx : Sk K2 w av nv cv x) (hlen : ∀ (j : Nat) k x, l[j]? = some (k, x) → k.length ≤ 1000000) (hn : nk ≤ 32) (hv1 : 0 < nv) (hv2 : nv ≤ 256) (hat : isAt k l = false) :
    Calls Tryz.prog 16 #[.slice a n c, .slice ak nk ck, .slice av nv cv] w fun e w' => ∃ u, e = .returned u ∧ (fun u w' => (∃ a n c vs, u = .tuple #[.slice a n c, .int .i64 (putE k x)] ∧ PAt (fun b => K b ∨ w.heap.size ≤ b) w' a n c vs (putL l k x)) ∧ Bl w w') u w' := by
  have hB := Bl.refl w
  have lk := hk.len
  have lx := hx.len
  have ll := hl.ll
  refine cw_enter Tryz.func16 rfl 53 rfl ?_
  show CW _ _ _ _ _ _ _ [(0, .slice a n c), (1, .slice ak nk ck), (2, .slice av nv cv)] _
  refine cw_seq ?_
  refine cw_region ?_
  refine rp 6 (.slice none 0 0) ?_
  refine rp 7 (.int .i64 0) ?_
  refine rw_nil ?_
  refine nw_then ?_
  refine cw_seq ?_
  refine cw_seq ?_
  refine cw_region ?_
  refine rp 11 (.slice ak nk ck) ?_
  refine rp 12 (.int .i64 nk) ?_
  refine rv 13 (.bool false) (fun _ => ol_conv (v := .bool (decide ((nk : Int) > (32 : Int)))) (by kernel_rfl) (congrArg Value.bool (decide_eq_false (by omega)))) ?_
  refine rw_nil ?_
  refine nw_then ?_
  refine cw_cond_f (fun _ => by kernel_rfl) ?_
  refine cw_skip ?_
  refine nw_then ?_
  refine cw_seq ?_
  refine cw_seq ?_
  refine cw_region ?_
  refine rp 15 (.slice av nv cv) ?_
  refine rp 16 (.int .i64 nv) ?_
  refine rv 17 (.bool false) (fun _ => ol_conv (v := .bool (decide ((nv : Int) < (1 : Int)))) (by kernel_rfl) (congrArg Value.bool (decide_eq_false (by omega)))) ?_
  refine rp 18 (.bool false) ?_
  refine rp 19 (.slice av nv cv) ?_
  refine rp 20 (.int .i64 nv) ?_
  refine rv 21 (.bool false) (fun _ => ol_conv (v := .bool (decide ((nv : Int) > (256 : Int)))) (by kernel_rfl) (congrArg Value.bool (decide_eq_false (by omega)))) ?_
  refine rp 22 (.bool false) ?_
  refine rw_nil ?_
  refine nw_then ?_
  refine cw_cond_f (fun _ => by kernel_rfl) ?_
  refine cw_skip ?_
  refine nw_then ?_
  refine cw_seq ?_
  refine cw_region ?_
  refine rp 25 (.slice a n c) ?_
  refine rp 26 (.slice ak nk ck) ?_
  refine rw_call 27 37 #[.slice a n c, .slice ak nk ck] (fun _ => by kernel_rfl) (fun _ => by kernel_rfl) (R := fun u w' => u = .tuple #[.int .i64 ((atN k l : Nat) : Int), .bool (isAt k l)] ∧ Bl (w) w') ((at_any (hl.go hB) (hk.go hB) hb hlen)) ?_
  rintro _ u1 ⟨rfl, hb2⟩
  replace hB := hB.go hb2
  rw [hat]
  have hle := atN_le k l
  have hl0 := hl.old
  refine rp 24 (.tuple #[.int .i64 ((atN k l : Nat) : Int), .bool false]) ?_
  refine rp 28 (.int .i64 ((atN k l : Nat) : Int)) ?_
  refine rp 29 (.bool false) ?_
  refine rp 8 (.int .i64 ((atN k l : Nat) : Int)) ?_
  refine rp 9 (.bool false) ?_
  refine rw_nil ?_
  refine nw_then ?_
  refine cw_seq ?_
  refine cw_region ?_
  refine rw_newS 30 #[] 45 0 (fun _ => by kernel_rfl) (fun _ => by kernel_rfl) ?_
  intro w0 g0 hn0
  have hO : OwnL (fun b => K b ∨ w.heap.size ≤ b) w0 w.heap.size (.slice (some ⟨g0, 0, none⟩) 0 0) [] := OwnL.new hn0 hB.size (fun b hb => .inr hb)
  replace hB := hB.go hn0.below
  refine rp 31 (.slice a n c) ?_
  refine rp 32 (.int .i64 ((atN k l : Nat) : Int)) ?_
  obtain ⟨a1, n1, c1, hc1, hP1⟩ := (hl0.go hB).cutTo (atN k l) (by omega)
  refine rv 33 (.slice a1 n1 c1) (fun _ => hc1 _ _ _ _ _ rfl (by kernel_rfl) (by kernel_rfl)) ?_
  have ht1 := hP1.ll
  obtain ⟨VA, wA, hrA, hOA, hbA⟩ := appP hO hP1 (fun b hb => ⟨fun e => by have := (hO.own b e).1; have := hb.2; omega, .inl hb.1⟩) (by rw [List.length_take] at ht1; simp; omega) hB.size
  refine rw_v 34 VA (fun _ => by kernel_rfl) (fun _ => ol_appP hrA _ _ rfl (by kernel_rfl) (by kernel_rfl)) ?_
  replace hB : Bl w wA := Below.trans hB hbA
  replace hO := hOA
  rw [List.nil_append] at hO
  refine rp 10 (VA) ?_
  refine rw_nil ?_
  have hOown := hO.own
  have hwA := hB.size
  refine nw_then ?_
  refine cw_seq ?_
  refine cw_region ?_
  refine rp 35 (VA) ?_
  have hzk := Nat.le_refl (World.heap wA).size
  refine rw_newS 36 #[] 5 0 (fun _ => by kernel_rfl) (fun _ => by kernel_rfl) ?_
  intro wk gk hnk
  have hqk := ownB_new0 hnk (Nat.le_refl _)
  refine rp 37 (.slice ak nk ck) ?_
  obtain ⟨Vk, wkb, hrk, hok, hbk⟩ := app_run hqk (hk.go (hB.go hnk.below)).ag (by simp; omega) (by have := hnk.below.size; omega)
  rw [List.nil_append] at hok
  refine rw_v 38 Vk (fun _ => by kernel_rfl) (fun _ => ol_app hrk _ _ rfl (by kernel_rfl) (by kernel_rfl)) ?_
  have hfk : Below wA.heap.size wA wkb := hnk.below.trans hbk
  obtain ⟨bk, dk, rfl, hsk⟩ := hok.sk (K := fun b => wA.heap.size ≤ b) hk.ag.b (fun b hb => hb)
  replace hB := hB.go hfk
  replace hO := hO.far hfk
  have hzx := Nat.le_refl (World.heap wkb).size
  refine rw_newS 39 #[] 5 0 (fun _ => by kernel_rfl) (fun _ => by kernel_rfl) ?_
  intro wx gx hnx
  have hqx := ownB_new0 hnx (Nat.le_refl _)
  refine rp 40 (.slice av nv cv) ?_
  obtain ⟨Vx, wxb, hrx, hox, hbx⟩ := app_run hqx (hx.go (hB.go hnx.below)).ag (by simp; omega) (by have := hnx.below.size; omega)
  rw [List.nil_append] at hox
  refine rw_v 41 Vx (fun _ => by kernel_rfl) (fun _ => ol_app hrx _ _ rfl (by kernel_rfl) (by kernel_rfl)) ?_
  have hfx : Below wkb.heap.size wkb wxb := hnx.below.trans hbx
  obtain ⟨bx, dx, rfl, hsx⟩ := hox.sk (K := fun b => wkb.heap.size ≤ b) hx.ag.b (fun b hb => hb)
  replace hB := hB.go hfx
  replace hO := hO.far hfx
  replace hsk := hsk.go hfx
  refine rp 42 (.agg #[.slice bk k.length dk, .slice bx x.length dx]) ?_
  have hown := hO.own
  have hsx2 := hfx.size
  have hsk2 := hfk.size
  refine rw_newS 43 #[.slice bk k.length dk, .slice bx x.length dx] 45 1 (fun _ => by kernel_rfl) (fun _ => by kernel_rfl) ?_
  intro wL gL hnL
  have hP2 := PAt.one hnL (hsk.mono (K' := fun b => wA.heap.size ≤ b) (fun b hb => hb)) (hsx.mono (K' := fun b => wA.heap.size ≤ b) (fun b hb => by omega)) (by have := hnL.hg; omega)
  replace hB := hB.go hnL.below
  have hOA := hO
  replace hO := hO.far hnL.below
  have hoA := hOown
  obtain ⟨VC, wC, hrC, hOC, hbC⟩ := appP hO hP2 (fun b hb => ⟨fun e => by have := (hoA b e).2; omega, .inr (by omega)⟩) (by simp; omega) hB.size
  refine rw_v 44 VC (fun _ => by kernel_rfl) (fun _ => ol_appP hrC _ _ rfl (by kernel_rfl) (by kernel_rfl)) ?_
  replace hB : Bl w wC := Below.trans hB hbC
  replace hO := hOC
  refine rp 10 (VC) ?_
  refine rw_nil ?_
  refine nw_then ?_
  refine cw_seq ?_
  refine cw_seq ?_
  refine cw_region ?_
  refine rp 45 (.bool false) ?_
  refine rw_nil ?_
  refine nw_then ?_
  refine cw_cond_f (fun _ => by kernel_rfl) ?_
  refine cw_skip ?_
  refine nw_then ?_
  refine cw_seq ?_
  refine cw_region ?_
  refine rp 48 (VC) ?_
  refine rp 49 (.slice a n c) ?_
  refine rp 50 (.int .i64 ((atN k l : Nat) : Int)) ?_
  obtain ⟨a3, n3, c3, hc3, hP3⟩ := (hl0.go hB).cutFrom (atN k l) (by omega)
  refine rv 51 (.slice a3 n3 c3) (fun _ => hc3 _ _ _ _ _ rfl (by kernel_rfl) (by kernel_rfl)) ?_
  have ht3 := hP3.ll
  obtain ⟨VE, wE, hrE, hOE, hbE⟩ := appP hO hP3 (fun b hb => ⟨fun e => by have := (hO.own b e).1; have := hb.2; omega, .inl hb.1⟩) (by rw [List.length_drop] at ht3; simp; omega) hB.size
  refine rw_v 52 VE (fun _ => by kernel_rfl) (fun _ => ol_appP hrE _ _ rfl (by kernel_rfl) (by kernel_rfl)) ?_
  replace hB : Bl w wE := Below.trans hB hbE
  replace hO := hOE
  refine rp 6 (VE) ?_
  refine rp 7 (.int .i64 0) ?_
  refine rw_nil ?_
  refine nw_then ?_
  refine cw_ret ?_
  have hpl : putL l k x = l.take (atN k l) ++ [(k, x)] ++ l.drop (atN k l) := by unfold putL; rw [if_pos (by omega), putR_cut, hat]; rfl
  rw [← hpl] at hO
  obtain ⟨aF, cF, vsF, eF, hF⟩ := hO.pat
  subst eF
  exact nw_ret_body (.tuple #[.slice aF (putL l k x).length cF, .int .i64 0]) (fun _ => by kernel_rfl) ⟨_, rfl, ⟨aF, _, cF, vsF, by rw [show putE k x = 0 from by unfold putE; rw [if_pos (by omega), if_pos (by omega)]], hF⟩, hB⟩
theorem rput_any {K K' : Nat → Prop} {w : World} {a : Option Addr} {n c : Nat} {vs : List (Value × Value)} {l : PList} (hl : PAt K w a n c vs l) {ak : Option Addr} {nk ck : Nat} {k : List Int} (hk : Sk K' w ak nk ck k) (hb : n ≤ 2600000000000) {K2 : Nat → Prop} {av : Option Addr} {nv cv : Nat} {x : List Int} (hx : Sk K2 w av nv cv x) (hlen : ∀ (j : Nat) k x, l[j]? = some (k, x) → k.length ≤ 1000000) :
    Calls Tryz.prog 16 #[.slice a n c, .slice ak nk ck, .slice av nv cv] w fun e w' => ∃ u, e = .returned u ∧ (fun u w' => (∃ a n c vs, u = .tuple #[.slice a n c, .int .i64 (putE k x)] ∧ PAt (fun b => K b ∨ w.heap.size ≤ b) w' a n c vs (putL l k x)) ∧ Bl w w') u w' := by
  by_cases hn : nk ≤ 32
  · by_cases h1 : nv < 1
    · exact rput_v0 hl hk hb hx hlen hn h1
    · by_cases h2 : nv ≤ 256
      · cases hat : isAt k l with
        | true => exact rput_is hl hk hb hx hlen hn (by omega) h2 hat
        | false => exact rput_not hl hk hb hx hlen hn (by omega) h2 hat
      · exact rput_vf hl hk hb hx hlen hn (by omega)
  · exact rput_long hl hk hb hx hlen (by omega)
end Go.Proofs.YtalhnnjpjaeakaaGreat
/- The document's Delete on a list of keys and values. -/
namespace Go.Proofs.YtalhnnjpjaeakaaGreat
open Go.RowKit
open Tr
set_option linter.unusedVariables false
set_option maxRecDepth 100000
set_option maxHeartbeats 2000000 in
theorem rdel_long {K K' : Nat → Prop} {w : World} {a : Option Addr} {n c : Nat} {vs : List (Value × Value)} {l : PList} (hl : PAt K w a n c vs l) {ak : Option Addr} {nk ck : Nat} {k : List Int} (hk : Sk K' w ak nk ck k) (hb : n ≤ 2600000000000) (hlen : ∀ (j : Nat) k x, l[j]? = some (k, x) → k.length ≤ 1000000) (hn : 32 < nk) :
    Calls Tryz.prog 23 #[.slice a n c, .slice ak nk ck] w fun e w' => ∃ u, e = .returned u ∧ (fun u w' => (∃ a n c vs, u = .tuple #[.slice a n c, .bool (if k.length ≤ 32 then isAt k l else false), .int .i64 (if k.length ≤ 32 then 0 else 70)] ∧ PAt (fun b => K b ∨ w.heap.size ≤ b) w' a n c vs (delL l k)) ∧ Bl w w') u w' := by
  have hB := Bl.refl w
  have lk := hk.len
  have ll := hl.ll
  refine cw_enter Tryz.func23 rfl 34 rfl ?_
  show CW _ _ _ _ _ _ _ [(0, .slice a n c), (1, .slice ak nk ck)] _
  refine cw_seq ?_
  refine cw_region ?_
  refine rp 4 (.slice none 0 0) ?_
  refine rp 5 (.bool false) ?_
  refine rp 6 (.int .i64 0) ?_
  refine rw_nil ?_
  refine nw_then ?_
  refine cw_seq ?_
  refine cw_seq ?_
  refine cw_region ?_
  refine rp 10 (.slice ak nk ck) ?_
  refine rp 11 (.int .i64 nk) ?_
  refine rv 12 (.bool true) (fun _ => ol_conv (v := .bool (decide ((nk : Int) > (32 : Int)))) (by kernel_rfl) (congrArg Value.bool (decide_eq_true (by omega)))) ?_
  refine rw_nil ?_
  refine nw_then ?_
  refine cw_cond_t (fun _ => by kernel_rfl) ?_
  refine cw_seq ?_
  refine cw_region ?_
  refine rp 13 (.slice a n c) ?_
  refine rp 4 (.slice a n c) ?_
  refine rp 5 (.bool false) ?_
  refine rp 6 (.int .i64 70) ?_
  refine rw_nil ?_
  refine nw_then ?_
  refine cw_ret ?_
  refine nw_ret_then ?_
  exact nw_ret_body (.tuple #[.slice a n c, .bool false, .int .i64 70]) (fun _ => by kernel_rfl) ⟨_, rfl, ⟨a, n, c, vs, by rw [if_neg (by omega), if_neg (by omega)], by rw [show delL l k = l from if_neg (by omega)]; exact (hl.go hB).mono (fun _ h => .inl h)⟩, hB⟩
set_option maxHeartbeats 2000000 in
theorem rdel_not {K K' : Nat → Prop} {w : World} {a : Option Addr} {n c : Nat} {vs : List (Value × Value)} {l : PList} (hl : PAt K w a n c vs l) {ak : Option Addr} {nk ck : Nat} {k : List Int} (hk : Sk K' w ak nk ck k) (hb : n ≤ 2600000000000) (hlen : ∀ (j : Nat) k x, l[j]? = some (k, x) → k.length ≤ 1000000) (hn : nk ≤ 32) (hat : isAt k l = false) :
    Calls Tryz.prog 23 #[.slice a n c, .slice ak nk ck] w fun e w' => ∃ u, e = .returned u ∧ (fun u w' => (∃ a n c vs, u = .tuple #[.slice a n c, .bool (if k.length ≤ 32 then isAt k l else false), .int .i64 (if k.length ≤ 32 then 0 else 70)] ∧ PAt (fun b => K b ∨ w.heap.size ≤ b) w' a n c vs (delL l k)) ∧ Bl w w') u w' := by
  have hB := Bl.refl w
  have lk := hk.len
  have ll := hl.ll
  refine cw_enter Tryz.func23 rfl 34 rfl ?_
  show CW _ _ _ _ _ _ _ [(0, .slice a n c), (1, .slice ak nk ck)] _
  refine cw_seq ?_
  refine cw_region ?_
  refine rp 4 (.slice none 0 0) ?_
  refine rp 5 (.bool false) ?_
  refine rp 6 (.int .i64 0) ?_
  refine rw_nil ?_
  refine nw_then ?_
  refine cw_seq ?_
  refine cw_seq ?_
  refine cw_region ?_
  refine rp 10 (.slice ak nk ck) ?_
  refine rp 11 (.int .i64 nk) ?_
  refine rv 12 (.bool false) (fun _ => ol_conv (v := .bool (decide ((nk : Int) > (32 : Int)))) (by kernel_rfl) (congrArg Value.bool (decide_eq_false (by omega)))) ?_
  refine rw_nil ?_
  refine nw_then ?_
  refine cw_cond_f (fun _ => by kernel_rfl) ?_
  refine cw_skip ?_
  refine nw_then ?_
  refine cw_seq ?_
  refine cw_region ?_
  refine rp 15 (.slice a n c) ?_
  refine rp 16 (.slice ak nk ck) ?_
  refine rw_call 17 37 #[.slice a n c, .slice ak nk ck] (fun _ => by kernel_rfl) (fun _ => by kernel_rfl) (R := fun u w' => u = .tuple #[.int .i64 ((atN k l : Nat) : Int), .bool (isAt k l)] ∧ Bl (w) w') ((at_any (hl.go hB) (hk.go hB) hb hlen)) ?_
  rintro _ u1 ⟨rfl, hb2⟩
  replace hB := hB.go hb2
  rw [hat]
  refine rp 14 (.tuple #[.int .i64 ((atN k l : Nat) : Int), .bool false]) ?_
  refine rp 18 (.int .i64 ((atN k l : Nat) : Int)) ?_
  refine rp 19 (.bool false) ?_
  refine rp 7 (.int .i64 ((atN k l : Nat) : Int)) ?_
  refine rp 8 (.bool false) ?_
  refine rw_nil ?_
  refine nw_then ?_
  refine cw_seq ?_
  refine cw_seq ?_
  refine cw_region ?_
  refine rp 20 (.bool false) ?_
  refine rp 21 (.bool true) ?_
  refine rw_nil ?_
  refine nw_then ?_
  refine cw_cond_t (fun _ => by kernel_rfl) ?_
  refine cw_seq ?_
  refine cw_region ?_
  refine rp 22 (.slice a n c) ?_
  refine rp 4 (.slice a n c) ?_
  refine rp 5 (.bool false) ?_
  refine rp 6 (.int .i64 0) ?_
  refine rw_nil ?_
  refine nw_then ?_
  refine cw_ret ?_
  refine nw_ret_then ?_
  exact nw_ret_body (.tuple #[.slice a n c, .bool false, .int .i64 0]) (fun _ => by kernel_rfl) ⟨_, rfl, ⟨a, n, c, vs, by rw [if_pos (by omega), if_pos (by omega)], by rw [show delL l k = l from by unfold delL; rw [if_pos (by omega), delR_cut, hat]; rfl]; exact (hl.go hB).mono (fun _ h => .inl h)⟩, hB⟩
set_option maxHeartbeats 2000000 in
theorem rdel_is {K K' : Nat → Prop} {w : World} {a : Option Addr} {n c : Nat} {vs : List (Value × Value)} {l : PList} (hl : PAt K w a n c vs l) {ak : Option Addr} {nk ck : Nat} {k : List Int} (hk : Sk K' w ak nk ck k) (hb : n ≤ 2600000000000) (hlen : ∀ (j : Nat) k x, l[j]? = some (k, x) → k.length ≤ 1000000) (hn : nk ≤ 32) (hat : isAt k l = true) :
    Calls Tryz.prog 23 #[.slice a n c, .slice ak nk ck] w fun e w' => ∃ u, e = .returned u ∧ (fun u w' => (∃ a n c vs, u = .tuple #[.slice a n c, .bool (if k.length ≤ 32 then isAt k l else false), .int .i64 (if k.length ≤ 32 then 0 else 70)] ∧ PAt (fun b => K b ∨ w.heap.size ≤ b) w' a n c vs (delL l k)) ∧ Bl w w') u w' := by
  have hB := Bl.refl w
  have lk := hk.len
  have ll := hl.ll
  refine cw_enter Tryz.func23 rfl 34 rfl ?_
  show CW _ _ _ _ _ _ _ [(0, .slice a n c), (1, .slice ak nk ck)] _
  refine cw_seq ?_
  refine cw_region ?_
  refine rp 4 (.slice none 0 0) ?_
  refine rp 5 (.bool false) ?_
  refine rp 6 (.int .i64 0) ?_
  refine rw_nil ?_
  refine nw_then ?_
  refine cw_seq ?_
  refine cw_seq ?_
  refine cw_region ?_
  refine rp 10 (.slice ak nk ck) ?_
  refine rp 11 (.int .i64 nk) ?_
  refine rv 12 (.bool false) (fun _ => ol_conv (v := .bool (decide ((nk : Int) > (32 : Int)))) (by kernel_rfl) (congrArg Value.bool (decide_eq_false (by omega)))) ?_
  refine rw_nil ?_
  refine nw_then ?_
  refine cw_cond_f (fun _ => by kernel_rfl) ?_
  refine cw_skip ?_
  refine nw_then ?_
  refine cw_seq ?_
  refine cw_region ?_
  refine rp 15 (.slice a n c) ?_
  refine rp 16 (.slice ak nk ck) ?_
  refine rw_call 17 37 #[.slice a n c, .slice ak nk ck] (fun _ => by kernel_rfl) (fun _ => by kernel_rfl) (R := fun u w' => u = .tuple #[.int .i64 ((atN k l : Nat) : Int), .bool (isAt k l)] ∧ Bl (w) w') ((at_any (hl.go hB) (hk.go hB) hb hlen)) ?_
  rintro _ u1 ⟨rfl, hb2⟩
  replace hB := hB.go hb2
  rw [hat]
  have hle := atN_le k l
  have hl0 := hl.old
  have hlt : atN k l < n := by by_cases h : atN k l < n; exact h; rw [isAt_end (by omega)] at hat; cases hat
  refine rp 14 (.tuple #[.int .i64 ((atN k l : Nat) : Int), .bool true]) ?_
  refine rp 18 (.int .i64 ((atN k l : Nat) : Int)) ?_
  refine rp 19 (.bool true) ?_
  refine rp 7 (.int .i64 ((atN k l : Nat) : Int)) ?_
  refine rp 8 (.bool true) ?_
  refine rw_nil ?_
  refine nw_then ?_
  refine cw_seq ?_
  refine cw_seq ?_
  refine cw_region ?_
  refine rp 20 (.bool true) ?_
  refine rp 21 (.bool false) ?_
  refine rw_nil ?_
  refine nw_then ?_
  refine cw_cond_f (fun _ => by kernel_rfl) ?_
  refine cw_skip ?_
  refine nw_then ?_
  refine cw_seq ?_
  refine cw_region ?_
  refine rw_newS 23 #[] 45 0 (fun _ => by kernel_rfl) (fun _ => by kernel_rfl) ?_
  intro w0 g0 hn0
  have hO : OwnL (fun b => K b ∨ w.heap.size ≤ b) w0 w.heap.size (.slice (some ⟨g0, 0, none⟩) 0 0) [] := OwnL.new hn0 hB.size (fun b hb => .inr hb)
  replace hB := hB.go hn0.below
  refine rp 24 (.slice a n c) ?_
  refine rp 25 (.int .i64 ((atN k l : Nat) : Int)) ?_
  obtain ⟨a1, n1, c1, hc1, hP1⟩ := (hl0.go hB).cutTo (atN k l) (by omega)
  refine rv 26 (.slice a1 n1 c1) (fun _ => hc1 _ _ _ _ _ rfl (by kernel_rfl) (by kernel_rfl)) ?_
  have ht1 := hP1.ll
  obtain ⟨VA, wA, hrA, hOA, hbA⟩ := appP hO hP1 (fun b hb => ⟨fun e => by have := (hO.own b e).1; have := hb.2; omega, .inl hb.1⟩) (by rw [List.length_take] at ht1; simp; omega) hB.size
  refine rw_v 27 VA (fun _ => by kernel_rfl) (fun _ => ol_appP hrA _ _ rfl (by kernel_rfl) (by kernel_rfl)) ?_
  replace hB : Bl w wA := Below.trans hB hbA
  replace hO := hOA
  rw [List.nil_append] at hO
  refine rp 9 (VA) ?_
  refine rw_nil ?_
  refine nw_then ?_
  refine cw_seq ?_
  refine cw_region ?_
  refine rp 28 (VA) ?_
  refine rp 29 (.slice a n c) ?_
  refine rp 30 (.int .i64 ((atN k l : Nat) : Int)) ?_
  refine rv 31 (.int .i64 ((atN k l + 1 : Nat) : Int)) (fun _ => ol_conv (v := .int .i64 (IntKind.i64.wrap (((atN k l : Nat) : Int) + 1))) (by kernel_rfl) (congrArg (Value.int .i64) (by rw [wrap64 (by omega) (by omega)]; omega))) ?_
  obtain ⟨a3, n3, c3, hc3, hP3⟩ := (hl0.go hB).cutFrom (atN k l + 1) (by omega)
  refine rv 32 (.slice a3 n3 c3) (fun _ => hc3 _ _ _ _ _ rfl (by kernel_rfl) (by kernel_rfl)) ?_
  have ht3 := hP3.ll
  obtain ⟨VE, wE, hrE, hOE, hbE⟩ := appP hO hP3 (fun b hb => ⟨fun e => by have := (hO.own b e).1; have := hb.2; omega, .inl hb.1⟩) (by rw [List.length_drop] at ht3; simp; omega) hB.size
  refine rw_v 33 VE (fun _ => by kernel_rfl) (fun _ => ol_appP hrE _ _ rfl (by kernel_rfl) (by kernel_rfl)) ?_
  replace hB : Bl w wE := Below.trans hB hbE
  replace hO := hOE
  refine rp 4 (VE) ?_
  refine rp 5 (.bool true) ?_
  refine rp 6 (.int .i64 0) ?_
  refine rw_nil ?_
  refine nw_then ?_
  refine cw_ret ?_
  have hpl : delL l k = l.take (atN k l) ++ l.drop (atN k l + 1) := by unfold delL; rw [if_pos (by omega), delR_cut, hat]; rfl
  rw [← hpl] at hO
  obtain ⟨aF, cF, vsF, eF, hF⟩ := hO.pat
  subst eF
  exact nw_ret_body (.tuple #[.slice aF (delL l k).length cF, .bool true, .int .i64 0]) (fun _ => by kernel_rfl) ⟨_, rfl, ⟨aF, _, cF, vsF, by rw [if_pos (by omega), if_pos (by omega)], hF⟩, hB⟩
theorem rdel_any {K K' : Nat → Prop} {w : World} {a : Option Addr} {n c : Nat} {vs : List (Value × Value)} {l : PList} (hl : PAt K w a n c vs l) {ak : Option Addr} {nk ck : Nat} {k : List Int} (hk : Sk K' w ak nk ck k) (hb : n ≤ 2600000000000) (hlen : ∀ (j : Nat) k x, l[j]? = some (k, x) → k.length ≤ 1000000) :
    Calls Tryz.prog 23 #[.slice a n c, .slice ak nk ck] w fun e w' => ∃ u, e = .returned u ∧ (fun u w' => (∃ a n c vs, u = .tuple #[.slice a n c, .bool (if k.length ≤ 32 then isAt k l else false), .int .i64 (if k.length ≤ 32 then 0 else 70)] ∧ PAt (fun b => K b ∨ w.heap.size ≤ b) w' a n c vs (delL l k)) ∧ Bl w w') u w' := by
  by_cases hn : nk ≤ 32
  · rcases Bool.eq_false_or_eq_true (isAt k l) with hat | hat
    · exact rdel_is hl hk hb hlen hn hat
    · exact rdel_not hl hk hb hlen hn hat
  · exact rdel_long hl hk hb hlen (by omega)
end Go.Proofs.YtalhnnjpjaeakaaGreat

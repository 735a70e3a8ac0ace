/- Lists of keys and values in memory. -/
import Derived.Test.YtalhnnjpjaeakaaGreatG31
import Derived.Test.YtalhnnjpjaeakaaGreatG19
import Derived.Maps.AppendAt
import Derived.Laws.AppendOwnNone
import Derived.Test.YtalhnnjpjaeakaaGreatG01
import Derived.Test.YtalhnnjpjaeakaaGreatG29
namespace Go.Proofs.YtalhnnjpjaeakaaGreat
open Go.RowKit
open Tr
set_option linter.unusedVariables false
set_option maxRecDepth 100000
def flatP (vs : List (Value × Value)) : List Value := vs.flatMap fun p => [p.1, p.2]
theorem flatP_len : ∀ vs : List (Value × Value), (flatP vs).length = vs.length * 2
  | [] => rfl
  | p :: r => by have := flatP_len r; simp only [flatP, List.flatMap_cons, List.length_append, List.length_cons, List.length_nil] at this ⊢; omega
theorem flatP_app (a b : List (Value × Value)) : flatP (a ++ b) = flatP a ++ flatP b := by simp [flatP]
theorem flatP_drop : ∀ (vs : List (Value × Value)) (m : Nat), flatP (vs.drop m) = (flatP vs).drop (m * 2)
  | [], m => by simp [flatP]
  | p :: r, 0 => by simp
  | p :: r, m + 1 => by
    rw [List.drop_succ_cons, flatP_drop r m, show (m + 1) * 2 = m * 2 + 1 + 1 from by omega]
    simp [flatP]
theorem flatP_take : ∀ (vs : List (Value × Value)) (m : Nat), flatP (vs.take m) = (flatP vs).take (m * 2)
  | [], m => by simp [flatP]
  | p :: r, 0 => by simp [flatP]
  | p :: r, m + 1 => by
    have ih := flatP_take r m
    rw [List.take_succ_cons, show (m + 1) * 2 = m * 2 + 1 + 1 from by omega]
    simp only [flatP, List.flatMap_cons, List.cons_append, List.nil_append, List.take_succ_cons] at ih ⊢
    rw [ih]
theorem flatP_get : ∀ (vs : List (Value × Value)) (j : Nat) (p : Value × Value), vs[j]? = some p → (flatP vs)[j * 2]? = some p.1 ∧ (flatP vs)[j * 2 + 1]? = some p.2
  | [], j, p, h => by simp at h
  | q :: r, 0, p, h => by simp at h; subst h; simp [flatP]
  | q :: r, j + 1, p, h => by
    have := flatP_get r j p (by simpa using h)
    rw [show (j + 1) * 2 = j * 2 + 1 + 1 from by omega]
    simpa [flatP] using this
theorem add_block (y : Addr) (k : Nat) : (y.add k).block = y.block := by
  unfold Addr.add
  split <;> rfl
/-- A pair of slices of bytes. -/
def Gp2 (K : Nat → Prop) (w : World) (p : Value × Value) (e : List Int × List Int) : Prop := ∃ a n c a' n' c', p.1 = .slice a n c ∧ p.2 = .slice a' n' c' ∧ Sk K w a n c e.1 ∧ Sk K w a' n' c' e.2
theorem Gp2.mono {K K' : Nat → Prop} {w : World} {p : Value × Value} {e : List Int × List Int} (h : Gp2 K w p e) (hK : ∀ b, K b → K' b) : Gp2 K' w p e := by
  obtain ⟨a, n, c, a', n', c', h1, h2, h3, h4⟩ := h
  exact ⟨a, n, c, a', n', c', h1, h2, h3.mono hK, h4.mono hK⟩
theorem Gp2.go {K : Nat → Prop} {w w' : World} {p : Value × Value} {e : List Int × List Int} (h : Gp2 K w p e) (hb : Below w.heap.size w w') : Gp2 K w' p e := by
  obtain ⟨a, n, c, a', n', c', h1, h2, h3, h4⟩ := h
  exact ⟨a, n, c, a', n', c', h1, h2, h3.go hb, h4.go hb⟩
/-- A slice of pairs in memory. -/
structure PAt (K : Nat → Prop) (w : World) (a : Option Addr) (n c : Nat) (vs : List (Value × Value)) (l : PList) : Prop where
  vl : vs.length = n
  ll : l.length = n
  nc : n ≤ c
  nil : a = none → n = 0 ∧ c = 0
  row : ∀ j u, (flatP vs)[j]? = some u → ∃ g off, a = some ⟨g, off, none⟩ ∧ w.cell? ⟨g, off + j, none⟩ = some u
  gd : ∀ (j : Nat) (p : Value × Value) (e : List Int × List Int), vs[j]? = some p → l[j]? = some e → Gp2 K w p e
  rk : ∀ x, a = some x → 0 < n → K x.block
section
variable {K : Nat → Prop} {w w' : World} {a : Option Addr} {n c : Nat} {vs : List (Value × Value)} {l : PList}
theorem PAt.go (h : PAt K w a n c vs l) (hb : Below w.heap.size w w') : PAt K w' a n c vs l := ⟨h.vl, h.ll, h.nc, h.nil, fun j u hj => by
  obtain ⟨g, off, h1, h2⟩ := h.row j u hj
  exact ⟨g, off, h1, (hb.cell (p := ⟨g, off + j, none⟩) (block_lt_of_cell h2)).trans h2⟩, fun j p e h1 h2 => (h.gd j p e h1 h2).go hb, h.rk⟩
theorem PAt.drew (h : PAt K w a n c vs l) : PAt K w.drew a n c vs l := h.go (Below.refl _ _).drew
theorem PAt.empty (K : Nat → Prop) (w : World) : PAt K w none 0 0 [] [] := ⟨rfl, rfl, Nat.le_refl _, fun _ => ⟨rfl, rfl⟩, (fun j u h => by simp [flatP] at h), (fun j p e h => by simp at h), fun x hx => by cases hx⟩
theorem PAt.mono {K' : Nat → Prop} (h : PAt K w a n c vs l) (hK : ∀ b, K b → K' b) : PAt K' w a n c vs l := ⟨h.vl, h.ll, h.nc, h.nil, h.row, fun j p e h1 h2 => (h.gd j p e h1 h2).mono hK, fun x hx hn => hK _ (h.rk x hx hn)⟩
theorem PAt.old (h : PAt K w a n c vs l) : PAt (fun b => K b ∧ b < w.heap.size) w a n c vs l := ⟨h.vl, h.ll, h.nc, h.nil, h.row, fun j p e h1 h2 => by
  obtain ⟨a, n, c, a', n', c', q1, q2, q3, q4⟩ := h.gd j p e h1 h2
  exact ⟨a, n, c, a', n', c', q1, q2, ⟨q3.ag, fun x hx hn => ⟨q3.k x hx hn, q3.old hx hn⟩⟩, ⟨q4.ag, fun x hx hn => ⟨q4.k x hx hn, q4.old hx hn⟩⟩⟩, fun x hx hn => by
  refine ⟨h.rk x hx hn, ?_⟩
  obtain ⟨u, hu⟩ : ∃ u, (flatP vs)[0]? = some u := ⟨_, List.getElem?_eq_getElem (by rw [flatP_len, h.vl]; omega)⟩
  obtain ⟨g, off, e1, e2⟩ := h.row 0 u hu
  rw [hx] at e1; cases e1
  exact block_lt_of_cell e2⟩
theorem PAt.cutFrom (h : PAt K w a n c vs l) (f : Nat) (hf : f ≤ n) :
    ∃ a' n' c', (∀ (v : World) (ρ : Operand → Value) (o : Oper) (x y : Operand), o.op = .slice 26 x (some y) none none → ρ x = .slice a n c → ρ y = .int .i64 ((f : Nat) : Int) → (execOp ρ o).run Tryz.prog v = .ok (.value (.slice a' n' c')) v) ∧ PAt K w a' n' c' (vs.drop f) (l.drop f) := by
  have hnc := h.nc
  refine ⟨if c = f then a else a.map (·.add (f * 2)), n - f, c - f, ?_, ?_⟩
  · intro v ρ o x y ho hx hy
    unfold execOp
    rw [ho]
    simp [hx, hy, Instr.sliceAt, run_underlying Tryz.underlying26, Instr.slice, Instr.sliceBounds, Instr.sliceBound, asIntOf, hf, Result.andThen]
  · refine ⟨by rw [List.length_drop, h.vl], by rw [List.length_drop, h.ll], by omega, fun e => ?_, fun j u hj => ?_, fun j p e h1 h2 => h.gd (f + j) p e (by rw [← List.getElem?_drop]; exact h1) (by rw [← List.getElem?_drop]; exact h2), fun x hx hn => ?_⟩
    · have : a = none := by
        by_cases hc : c = f
        · rw [if_pos hc] at e; exact e
        · rw [if_neg hc] at e; simpa using e
      have := h.nil this
      omega
    · rw [flatP_drop, List.getElem?_drop] at hj
      obtain ⟨g, off, h1, h2⟩ := h.row _ _ hj
      have hlt : f * 2 + j < (flatP vs).length := (List.getElem?_eq_some_iff.1 hj).1
      rw [flatP_len, h.vl] at hlt
      refine ⟨g, off + f * 2, ?_, ?_⟩
      · rw [if_neg (by omega), h1, Option.map_some, addr_add]
      · rw [show off + f * 2 + j = off + (f * 2 + j) from by omega]; exact h2
    · rw [if_neg (by omega)] at hx
      cases a with
      | none => cases hx
      | some y => cases hx; show K (y.add _).block; rw [add_block]; exact h.rk y rfl (by omega)
theorem PAt.cutTo (h : PAt K w a n c vs l) (f : Nat) (hf : f ≤ n) :
    ∃ a' n' c', (∀ (v : World) (ρ : Operand → Value) (o : Oper) (x y : Operand), o.op = .slice 26 x none (some y) none → ρ x = .slice a n c → ρ y = .int .i64 ((f : Nat) : Int) → (execOp ρ o).run Tryz.prog v = .ok (.value (.slice a' n' c')) v) ∧ PAt K w a' n' c' (vs.take f) (l.take f) := by
  have hnc := h.nc
  have hfc : f ≤ c := by omega
  refine ⟨if c = 0 then a else a.map (·.add (0 * 2)), f, c, ?_, ?_⟩
  · intro v ρ o x y ho hx hy
    unfold execOp
    rw [ho]
    simp [hx, hy, Instr.sliceAt, run_underlying Tryz.underlying26, Instr.slice, Instr.sliceBounds, Instr.sliceBound, asIntOf, hfc, Result.andThen]
  · have hlv := h.vl
    have hll := h.ll
    refine ⟨by rw [List.length_take]; omega, by rw [List.length_take]; omega, by omega, fun e => ?_, fun j u hj => ?_, fun j p e h1 h2 => ?_, fun x hx hn => ?_⟩
    · have : a = none := by
        by_cases hc : c = 0
        · rw [if_pos hc] at e; exact e
        · rw [if_neg hc] at e; simpa using e
      have := h.nil this
      omega
    · rw [flatP_take] at hj
      have hlt : j < ((flatP vs).take (f * 2)).length := (List.getElem?_eq_some_iff.1 hj).1
      rw [List.length_take, flatP_len, h.vl] at hlt
      rw [List.getElem?_take_of_lt (by omega)] at hj
      obtain ⟨g, off, h1, h2⟩ := h.row _ _ hj
      exact ⟨g, off, by rw [if_neg (by omega), h1, Option.map_some, addr_add]; rfl, h2⟩
    · have hj1 : j < (vs.take f).length := (List.getElem?_eq_some_iff.1 h1).1
      rw [List.length_take] at hj1
      exact h.gd j p e (by rw [List.getElem?_take_of_lt (by omega)] at h1; exact h1) (by rw [List.getElem?_take_of_lt (by omega)] at h2; exact h2)
    · rw [if_neg (by omega)] at hx
      cases a with
      | none => cases hx
      | some y => cases hx; show K (y.add _).block; rw [add_block]; exact h.rk y rfl (by omega)
theorem PAt.at (h : PAt K w a n c vs l) {j : Nat} (hj : j < n) : ∃ g off a1 n1 c1 a2 n2 c2 k x, a = some ⟨g, off, none⟩ ∧ l[j]? = some (k, x) ∧ w.cell? ⟨g, off + j * 2, none⟩ = some (.slice a1 n1 c1) ∧ w.cell? ⟨g, off + j * 2 + 1, none⟩ = some (.slice a2 n2 c2) ∧ Sk K w a1 n1 c1 k ∧ Sk K w a2 n2 c2 x := by
  obtain ⟨p, hp⟩ : ∃ p, vs[j]? = some p := ⟨_, List.getElem?_eq_getElem (by rw [h.vl]; exact hj)⟩
  obtain ⟨e, he⟩ : ∃ e, l[j]? = some e := ⟨_, List.getElem?_eq_getElem (by rw [h.ll]; exact hj)⟩
  obtain ⟨a1, n1, c1, a2, n2, c2, h1, h2, h3, h4⟩ := h.gd j p e hp he
  obtain ⟨f1, f2⟩ := flatP_get vs j p hp
  obtain ⟨g, off, e1, e2⟩ := h.row _ _ f1
  obtain ⟨g', off', e1', e2'⟩ := h.row _ _ f2
  rw [e1] at e1'
  cases e1'
  exact ⟨g, off, a1, n1, c1, a2, n2, c2, e.1, e.2, e1, he, by rw [e2, h1], by rw [Nat.add_assoc, e2', h2], h3, h4⟩
end
/-- A list in a row of one's own. -/
def OwnL (X : Nat → Prop) (w : World) (base : Nat) (v : Value) (l : PList) : Prop := (∀ b, base ≤ b → X b) ∧ ∃ vs : List (Value × Value), vs.length = l.length ∧ w.ownsRow base 45 2 v l.length (flatP vs) ∧ ∀ (j : Nat) (p : Value × Value) (e : List Int × List Int), vs[j]? = some p → l[j]? = some e → Gp2 (fun b => v.ownBlock ≠ some b ∧ X b) w p e
theorem OwnL.pat {X : Nat → Prop} {w : World} {base : Nat} {v : Value} {l : PList} (h : OwnL X w base v l) : ∃ a c vs, v = .slice a l.length c ∧ PAt X w a l.length c vs l := by
  obtain ⟨hX, vs, h1, ⟨h2, h3⟩, h4⟩ := h
  rcases h3 with ⟨rfl, h5⟩ | ⟨g, cap, cur, rfl, hbg, hg, hc1, hc2, hc3, hc4⟩
  · refine ⟨none, 0, vs, by rw [h5], h1, rfl, by omega, fun _ => ⟨h5, rfl⟩, fun j u hj => ?_, fun j p e q1 q2 => (h4 j p e q1 q2).mono (fun _ h => h.2), fun x hx => by cases hx⟩
    have : vs = [] := List.eq_nil_of_length_eq_zero (by omega)
    subst this; simp [flatP] at hj
  · refine ⟨some ⟨g, 0, none⟩, cap, vs, rfl, h1, rfl, hc1, (fun e => by cases e), fun j u hj => ⟨g, 0, rfl, ?_⟩, fun j p e q1 q2 => (h4 j p e q1 q2).mono (fun _ h => h.2), fun x hx _ => by cases hx; exact hX _ hbg⟩
    rw [cell_of_row _ _ _ _ _ _ hg, Nat.zero_add]
    have hlt : j < (flatP vs).length := (List.getElem?_eq_some_iff.1 hj).1
    rw [flatP_len, h1] at hlt
    rw [← hc4, List.getElem?_take_of_lt (by omega)] at hj
    rw [← Array.getElem?_toList]; exact hj
theorem infoPR : ∃ i, Tryz.prog.info? 45 = some i ∧ i.zero = some (.agg #[.slice none 0 0, .slice none 0 0]) ∧ i.size = 2 ∧ i.bytes = 48 := by
  have h : (Tryz.prog.info? 45).map (fun i => (i.zero, i.size, i.bytes)) = some (some (.agg #[.slice none 0 0, .slice none 0 0]), 2, 48) := by kernel_rfl
  cases hq : Tryz.prog.info? 45 with
  | none => rw [hq] at h; simp at h
  | some i => rw [hq] at h; simp at h; exact ⟨i, rfl, h.1, h.2.1, h.2.2⟩
theorem OwnL.far {X : Nat → Prop} {w w' : World} {base : Nat} {v : Value} {l : PList} (h : OwnL X w base v l) (hb : Below w.heap.size w w') : OwnL X w' base v l := by
  obtain ⟨hX, vs, h1, ⟨h2, h3⟩, h4⟩ := h
  refine ⟨hX, vs, h1, ⟨h2, ?_⟩, fun j p e q1 q2 => (h4 j p e q1 q2).go hb⟩
  rcases h3 with q | ⟨g, cap, cur, e1, e2, e3, e4⟩
  · exact .inl q
  · exact .inr ⟨g, cap, cur, e1, e2, (hb.block g (lt_of_get e3)).trans e3, e4⟩
theorem OwnL.own {X : Nat → Prop} {w : World} {base : Nat} {v : Value} {l : PList} (h : OwnL X w base v l) : ∀ k, v.ownBlock = some k → base ≤ k ∧ k < w.heap.size := by
  obtain ⟨hX, vs, h1, ⟨h2, h3⟩, h4⟩ := h
  intro k hk
  rcases h3 with ⟨rfl, _⟩ | ⟨g, cap, cur, rfl, hbg, hg, _⟩
  · cases hk
  · have e : g = k := by simpa [Value.ownBlock] using hk
    subst e
    exact ⟨hbg, lt_of_get hg⟩
/-- An append of such a slice onto a row of one's own. -/
theorem appP {X : Nat → Prop} {w : World} {base : Nat} {v : Value} {l : PList} (hown : OwnL X w base v l) {K : Nat → Prop} {a : Option Addr} {m c : Nat} {vs' : List (Value × Value)} {l' : PList} (h : PAt K w a m c vs' l') (hK : ∀ b, K b → v.ownBlock ≠ some b ∧ X b) (hlen : l.length + m ≤ 2900000000000) (hbase : base ≤ w.heap.size) :
    ∃ v' w', (∀ ty, (Builtin.append_ #[26, 26] ty #[v, .slice a m c]).run Tryz.prog w = .ok v' w') ∧ OwnL X w' base v' (l ++ l') ∧ Below base w w' := by
  obtain ⟨i, hi, hz, hsz, hby⟩ := infoPR
  have hOw := hown.own
  obtain ⟨hX, vs, h1, h2, h4⟩ := id hown
  cases a with
  | none =>
    obtain ⟨rfl, rfl⟩ := h.nil rfl
    have hn0 : l' = [] := List.eq_nil_of_length_eq_zero h.ll
    subst hn0
    exact ⟨v, w, fun ty => run_append_owned_none w base 26 ty 45 i 2 Tryz.underlying26 hi v _ _ h2, by rw [List.append_nil]; exact hown, Below.refl _ _⟩
  | some ad =>
    have hc : ∀ j u, (flatP vs')[j]? = some u → w.cell? (ad.add j) = some u := by
      intro j u hj
      obtain ⟨g, off, e1, e2⟩ := h.row j u hj
      cases e1
      rw [addr_add]; exact e2
    have hone : ∀ u ∈ flatP vs', u.oneCell' = true := by
      intro u hu
      obtain ⟨p, hp, hup⟩ := List.mem_flatMap.1 hu
      obtain ⟨j, hj, e⟩ := List.mem_iff_getElem.1 hp
      have hjl : j < l'.length := by rw [h.ll, ← h.vl]; exact hj
      obtain ⟨a1, n1, c1, a2, n2, c2, q1, q2, _, _⟩ := h.gd j p l'[j] (by rw [List.getElem?_eq_getElem hj, e]) (List.getElem?_eq_getElem hjl)
      simp at hup
      rcases hup with q | q
      · rw [q, q1]; rfl
      · rw [q, q2]; rfl
    obtain ⟨v', w', r1, r2, r3, _, r5⟩ := run_append_own_at w base 26 0 45 i _ 2 48 Tryz.underlying26 hi hz hsz hby rfl (by decide) v l.length (flatP vs) h2 ad m c (flatP vs') (by rw [flatP_len, h.vl]) hc hone (by unfold maxLen; omega) (by omega) hbase
    have hkeep : ∀ {K' : Nat → Prop} {p : Value × Value} {e : List Int × List Int}, (∀ b, K' b → v.ownBlock ≠ some b ∧ X b) → Gp2 K' w p e → Gp2 (fun b => v'.ownBlock ≠ some b ∧ X b) w' p e := by
      intro K' p e hK' hg
      obtain ⟨a1, n1, c1, a2, n2, c2, q1, q2, q3, q4⟩ := hg
      have hsk : ∀ {a : Option Addr} {n c : Nat} {bs : List Int}, Sk K' w a n c bs → Sk (fun b => v'.ownBlock ≠ some b ∧ X b) w' a n c bs := by
        intro a n c bs hs
        refine ⟨⟨?_, hs.ag.nil, hs.ag.l, hs.ag.b⟩, fun x hx hn => ?_⟩
        · rcases hs.ag.i with q | ⟨gb, off, q1, q2, q3, q4, q5, q7⟩
          · exact .inl q
          · refine .inr ⟨gb, off, q1, q2, q3, q4, q5, fun j hj => ?_⟩
            rw [← q7 j hj]
            exact World.cell?_of_block (r3.block gb (block_lt_of_cell (q7 j hj)) (fun e => (hK' _ (hs.k _ q1 q3)).1 e.symm))
        · refine ⟨?_, (hK' _ (hs.k x hx hn)).2⟩
          rcases r5 with q | q
          · rw [q]; exact (hK' _ (hs.k x hx hn)).1
          · rw [q]; intro e; have := hs.old hx hn; simp at e; omega
      exact ⟨a1, n1, c1, a2, n2, c2, q1, q2, hsk q3, hsk q4⟩
    refine ⟨v', w', fun ty => r1, ⟨hX, vs ++ vs', by simp [h1, h.vl, h.ll], ?_, ?_⟩, ?_⟩
    · rw [List.length_append, h.ll, flatP_app]; exact r2
    · intro j p e q1 q2
      by_cases hj : j < vs.length
      · rw [List.getElem?_append_left hj] at q1
        rw [List.getElem?_append_left (by omega)] at q2
        exact hkeep (fun b hb => hb) (h4 j p e q1 q2)
      · rw [List.getElem?_append_right (by omega)] at q1
        rw [List.getElem?_append_right (by omega), ← h1] at q2
        exact hkeep hK (h.gd _ p e q1 q2)
    · exact (Below.refl _ _).grown r3 hbase (fun k hk => (hOw k hk).1)
/-- A new empty row. -/
theorem OwnL.new {X : Nat → Prop} {w w' : World} {g base : Nat} (h : New w w' g #[] 45) (hb : base ≤ w.heap.size) (hX : ∀ b, base ≤ b → X b) : OwnL X w' base (.slice (some ⟨g, 0, none⟩) 0 0) []     := ⟨hX, [], rfl, ⟨rfl, .inr ⟨g, 0, #[], rfl, by rw [h.hg]; exact hb, h.row, Nat.le_refl _, by unfold maxLen; omega, rfl, rfl⟩⟩, fun j p e q => by simp at q⟩
/-- One pair in a new block. -/
theorem PAt.one {K : Nat → Prop} {w w' : World} {g : Nat} {a a' : Option Addr} {n c n' c' : Nat} {k x : List Int} (h : New w w' g #[.slice a n c, .slice a' n' c'] 45) (h1 : Sk K w a n c k) (h2 : Sk K w a' n' c' x) (hKg : K g) : PAt K w' (some ⟨g, 0, none⟩) 1 1 [(.slice a n c, .slice a' n' c')] [(k, x)] := by
  refine ⟨rfl, rfl, Nat.le_refl _, (fun e => by cases e), fun j u hj => ⟨g, 0, rfl, ?_⟩, (fun j p e q1 q2 => ?_), fun x hx _ => by cases hx; exact hKg⟩
  · rw [cell_of_row _ _ _ _ _ _ h.row, Nat.zero_add]
    match j, hj with
    | 0, hj => exact hj
    | 1, hj => exact hj
    | j + 2, hj => simp [flatP] at hj
  · match j, q1, q2 with
    | 0, q1, q2 =>
      simp at q1 q2
      subst q1 q2
      exact ⟨a, n, c, a', n', c', rfl, rfl, h1.go h.below, h2.go h.below⟩
    | j + 1, q1, _ => simp at q1
theorem Tri.noslice {K : Nat → Prop} {w : World} {g : Nat} {t : Tr} (h : Tri K w g t) (o : Nat) (a : Option Addr) (n c : Nat) : w.cell? ⟨g, o, none⟩ ≠ some (.slice a n c) := by
  obtain ⟨⟨v, h1, h2⟩, h3⟩ := h
  rw [cell_of_row _ _ _ _ _ _ h1]
  cases o with
  | zero =>
    intro e
    simp at e
    subst e
    cases t with
    | no => cases h2
    | leaf p x => obtain ⟨_, _, _, _, _, _, e, _⟩ := h2; cases e
    | ext p t => obtain ⟨_, _, _, _, e, _⟩ := h2; cases e
    | br k x => obtain ⟨_, _, _, _, e, _⟩ := h2; cases e
  | succ o => simp
theorem PAt.touch {K K' : Nat → Prop} {w w' : World} {g : Nat} {t : Tr} {a : Option Addr} {n c : Nat} {vs : List (Value × Value)} {l : PList} (h : PAt K w a n c vs l) (ht : Touch g w w') (hT : Tri K' w g t) : PAt K w' a n c vs l := by
  refine ⟨h.vl, h.ll, h.nc, h.nil, fun j u hj => ?_, fun j p e h1 h2 => ?_, h.rk⟩
  · obtain ⟨g', off, h1, h2⟩ := h.row j u hj
    refine ⟨g', off, h1, ?_⟩
    have hu : ∃ a n c, u = .slice a n c := by
      have hlt : j < (flatP vs).length := (List.getElem?_eq_some_iff.1 hj).1
      have hu : u ∈ flatP vs := List.mem_of_getElem? hj
      obtain ⟨p, hp, hup⟩ := List.mem_flatMap.1 hu
      obtain ⟨i, hi, e⟩ := List.mem_iff_getElem.1 hp
      have hjl : i < l.length := by rw [h.ll, ← h.vl]; exact hi
      obtain ⟨a1, n1, c1, a2, n2, c2, q1, q2, _, _⟩ := h.gd i p l[i] (by rw [List.getElem?_eq_getElem hi, e]) (List.getElem?_eq_getElem hjl)
      simp at hup
      rcases hup with q | q
      · exact ⟨_, _, _, q.trans q1⟩
      · exact ⟨_, _, _, q.trans q2⟩
    obtain ⟨a1, n1, c1, rfl⟩ := hu
    have hne : g' ≠ g := fun e => by subst e; exact hT.noslice _ _ _ _ h2
    rw [← h2]
    exact World.cell?_of_block (ht.block g' (block_lt_of_cell h2) hne)
  · obtain ⟨a1, n1, c1, a2, n2, c2, q1, q2, q3, q4⟩ := h.gd j p e h1 h2
    exact ⟨a1, n1, c1, a2, n2, c2, q1, q2, q3.touch ht hT, q4.touch ht hT⟩
end Go.Proofs.YtalhnnjpjaeakaaGreat
/- The document's lists of keys and values: where a key stands, its value, a list with one more. -/
namespace Go.Proofs.YtalhnnjpjaeakaaGreat
open Go.RowKit
open Tr
open Ni (lessP)
set_option linter.unusedVariables false
set_option maxRecDepth 100000
theorem Sk.byte {K : Nat → Prop} {w : World} {a : Option Addr} {n c : Nat} {p : List Int} (h : Sk K w a n c p) {j : Nat} (hj : j < n) : ∃ g off, a = some ⟨g, off, none⟩ ∧ w.cell? ⟨g, off + j * 1, none⟩ = some (.int .u8 (p.getD j 0)) := by
  rcases h.ag.i with ⟨h1, h2⟩ | ⟨gb, off, h1, h2, h3, h4, h5, h7⟩
  · omega
  · exact ⟨gb, off, h1, by rw [Nat.mul_one]; exact h7 j (by have := h.len; omega)⟩
theorem drop_cons {p : List Int} {j : Nat} (hj : j < p.length) : p.drop j = p.getD j 0 :: p.drop (j + 1) := by
  rw [List.drop_eq_getElem_cons hj]; simp [List.getD, hj]
theorem less_step {p q : List Int} {j : Nat} (h1 : j < p.length) (h2 : j < q.length) : lessP (p.drop j) (q.drop j) = if p.getD j 0 = q.getD j 0 then lessP (p.drop (j + 1)) (q.drop (j + 1)) else decide (p.getD j 0 < q.getD j 0) := by
  rw [drop_cons h1, drop_cons h2]; rfl
theorem less_end {p q : List Int} {j : Nat} (h : ¬ (j < p.length ∧ j < q.length)) (h1 : j ≤ p.length) (h2 : j ≤ q.length) : lessP (p.drop j) (q.drop j) = decide (p.length < q.length) := by
  by_cases e : j = p.length
  · rw [List.drop_eq_nil_of_le (by omega)]
    by_cases e2 : j < q.length
    · rw [drop_cons e2]
      rw [decide_eq_true (by omega)]; rfl
    · rw [List.drop_eq_nil_of_le (by omega), decide_eq_false (by omega)]; rfl
  · rw [show q.drop j = [] from List.drop_eq_nil_of_le (by omega), decide_eq_false (by omega)]
    cases p.drop j <;> rfl
/-- Two cells. -/
structure Cl2 (w : World) (p p' : Addr) (v v' : Value) : Prop where
  cx : w.cell? p = some v
  cy : w.cell? p' = some v'
theorem Cl2.drew {w : World} {p p' : Addr} {v v' : Value} (h : Cl2 w p p' v v') : Cl2 w.drew p p' v v' := ⟨h.cx, h.cy⟩
theorem Cl2.go {w w' : World} {p p' : Addr} {v v' : Value} (h : Cl2 w p p' v v') (hb : Below w.heap.size w w') : Cl2 w' p p' v v' := ⟨(hb.cell (p := p) (block_lt_of_cell h.cx)).trans h.cx, (hb.cell (p := p') (block_lt_of_cell h.cy)).trans h.cy⟩
theorem atN_drop {k : List Int} {l : PList} {j : Nat} (hj : j < l.length) {e : List Int × List Int} (he : l[j]? = some e) : atN k (l.drop j) = if lessP e.1 k then atN k (l.drop (j + 1)) + 1 else 0 := by
  have : l.drop j = e :: l.drop (j + 1) := by
    rw [List.drop_eq_getElem_cons hj]
    rw [List.getElem?_eq_getElem hj] at he
    simp at he; rw [he]
  rw [this]; rfl
theorem isAt_of {k : List Int} {l : PList} {j : Nat} (h : atN k l = j) {e : List Int × List Int} (he : l[j]? = some e) : isAt k l = decide (e.1 = k) := by
  unfold isAt; rw [h, he]
theorem isAt_end {k : List Int} {l : PList} (h : atN k l = l.length) : isAt k l = false := by
  unfold isAt; rw [h, List.getElem?_eq_none (Nat.le_refl _)]
set_option maxHeartbeats 2000000 in
theorem ahead_any {K K' : Nat → Prop} {w : World} {a a' : Option Addr} {n c n' c' : Nat} {p q : List Int} (hp : Sk K w a n c p) (hq : Sk K' w a' n' c' q) (hn : n ≤ 1000000) :
    Calls Tryz.prog 53 #[.slice a n c, .slice a' n' c'] w fun e w' => ∃ u, e = .returned u ∧ (fun u w' => u = .bool (lessP p q) ∧ Bl w w') u w' := by
  have hB := Bl.refl w
  have lp := hp.len
  have lq := hq.len
  refine cw_enter Tryz.func53 rfl 41 rfl ?_
  show CW _ _ _ _ _ _ _ [(0, .slice a n c), (1, .slice a' n' c')] _
  refine cw_seq ?_
  refine cw_region ?_
  refine rp 4 (.bool false) ?_
  refine rw_nil ?_
  refine nw_then ?_
  refine cw_seq ?_
  refine cw_seq ?_
  refine cw_region ?_
  refine rp 5 (.int .i64 0) ?_
  refine rw_nil ?_
  refine nw_then ?_
  refine cw_block ?_
  refine cw_loop (X := Nat) (fun j => [(5, .int .i64 ((j : Nat) : Int)), (0, .slice a n c), (1, .slice a' n' c')]) (fun j v => Bl w v ∧ j ≤ n ∧ j ≤ n' ∧ lessP (p.drop j) (q.drop j) = lessP p q) (fun j => n - j) 0 (by exact ⟨fun _ => by kernel_rfl, ⟨fun _ => by kernel_rfl, ⟨fun _ => by kernel_rfl, trivial⟩⟩⟩) ⟨hB, Nat.zero_le _, Nat.zero_le _, by simp⟩ ?_
  clear hB
  rintro j v ⟨hB, hj1, hj2, hL⟩
  by_cases hlt : j < n ∧ j < n'
  · skip
    obtain ⟨g1, o1, e1, hc1⟩ := (hp.go hB).byte hlt.1
    obtain ⟨g2, o2, e2, hc2⟩ := (hq.go hB).byte hlt.2
    subst e1
    subst e2
    have hst := less_step (p := p) (q := q) (j := j) (by omega) (by omega)
    obtain ⟨x, ex⟩ : ∃ x, p.getD j 0 = x := ⟨_, rfl⟩
    obtain ⟨y, ey⟩ : ∃ y, q.getD j 0 = y := ⟨_, rfl⟩
    rw [ex, ey, hL] at hst
    rw [ex] at hc1
    rw [ey] at hc2
    have hS : Cl2 v ⟨g1, o1 + j * 1, none⟩ ⟨g2, o2 + j * 1, none⟩ (.int .u8 x) (.int .u8 y) := ⟨hc1, hc2⟩
    refine cw_seq ?_
    refine cw_seq ?_
    refine cw_region ?_
    refine rp 6 (.int .i64 ((j : Nat) : Int)) ?_
    refine rp 7 (.slice (some ⟨g1, o1, none⟩) n c) ?_
    refine rp 8 (.int .i64 n) ?_
    refine rv 9 (.bool true) (fun _ => ol_conv (v := .bool (decide (((j : Nat) : Int) < (n : Int)))) (by kernel_rfl) (congrArg Value.bool (decide_eq_true (by omega)))) ?_
    refine rp 10 (.bool true) ?_
    refine rp 11 (.int .i64 ((j : Nat) : Int)) ?_
    refine rp 12 (.slice (some ⟨g2, o2, none⟩) n' c') ?_
    refine rp 13 (.int .i64 n') ?_
    refine rv 14 (.bool true) (fun _ => ol_conv (v := .bool (decide (((j : Nat) : Int) < (n' : Int)))) (by kernel_rfl) (congrArg Value.bool (decide_eq_true (by omega)))) ?_
    refine rp 15 (.bool true) ?_
    refine rw_nil ?_
    refine nw_then ?_
    refine cw_cond_t (fun _ => by kernel_rfl) ?_
    refine cw_skip ?_
    refine nw_then ?_
    refine cw_seq ?_
    refine cw_block ?_
    refine cw_seq ?_
    refine cw_draw (fun v => Cl2 v ⟨g1, o1 + j * 1, none⟩ ⟨g2, o2 + j * 1, none⟩ (.int .u8 x) (.int .u8 y)) (by kernel_rfl) (hS.drew) ?_
    replace hB := hB.drew
    replace hS := hS.drew
    refine dt 0 18 (.slice (some ⟨g1, o1, none⟩) n c) (fun v hv _ => by kernel_rfl) hS ?_
    refine dt 1 19 (.int .i64 ((j : Nat) : Int)) (fun v hv _ => by kernel_rfl) hS ?_
    refine dt 2 20 (.pointer (some ⟨g1, o1 + j * 1, none⟩)) (fun v hv _ => ol_index 27 _ _ g1 o1 j n c 1 5 rfl (by kernel_rfl) (by kernel_rfl) hlt.1 Tryz.underlying27 (by kernel_rfl)) hS ?_
    refine dt 3 21 (.int .u8 x) (fun v hv _ => ol_cell 5 _ _ _ _ rfl (by kernel_rfl) hv.cx Tryz.underlying5 rfl) hS ?_
    refine dt 4 22 (.slice (some ⟨g2, o2, none⟩) n' c') (fun v hv _ => by kernel_rfl) hS ?_
    refine dt 5 23 (.int .i64 ((j : Nat) : Int)) (fun v hv _ => by kernel_rfl) hS ?_
    refine dt 6 24 (.pointer (some ⟨g2, o2 + j * 1, none⟩)) (fun v hv _ => ol_index 27 _ _ g2 o2 j n' c' 1 5 rfl (by kernel_rfl) (by kernel_rfl) hlt.2 Tryz.underlying27 (by kernel_rfl)) hS ?_
    refine dt 7 25 (.int .u8 y) (fun v hv _ => ol_cell 5 _ _ _ _ rfl (by kernel_rfl) hv.cy Tryz.underlying5 rfl) hS ?_
    refine dt 8 26 (.bool (!((x : Int) == (y : Int)))) (fun v hv _ => by kernel_rfl) hS ?_
    refine dw_done (by kernel_rfl) ?_
    refine nw_then ?_
    by_cases hxy : x = y
    · skip
      rw [show (!((x : Int) == (y : Int))) = false from by simp [hxy]]
      refine cw_cond_f (fun _ => by kernel_rfl) ?_
      refine cw_skip ?_
      refine nw_block ?_
      refine nw_then ?_
      refine cw_region ?_
      refine rp 16 (.int .i64 ((j : Nat) : Int)) ?_
      refine rv 17 (.int .i64 (((j : Nat) : Int) + 1)) (fun _ => ol_conv (v := .int .i64 (IntKind.i64.wrap (((j : Nat) : Int) + 1))) (by kernel_rfl) (congrArg (Value.int .i64) (wrap64 (by omega) (by omega)))) ?_
      refine rp 5 (.int .i64 (((j : Nat) : Int) + 1)) ?_
      refine rw_nil ?_
      exact nw_round (E := fun j => [(5, .int .i64 ((j : Nat) : Int)), (0, .slice (some ⟨g1, o1, none⟩) n c), (1, .slice (some ⟨g2, o2, none⟩) n' c')]) (R := fun j v => Bl w v ∧ j ≤ n ∧ j ≤ n' ∧ lessP (p.drop j) (q.drop j) = lessP p q) (μ := fun j => n - j) (x := j) (j + 1) (by exact ⟨fun _ => by kernel_rfl, ⟨fun _ => by kernel_rfl, ⟨fun _ => by kernel_rfl, trivial⟩⟩⟩) ⟨hB, by omega, by omega, by rw [hst, if_pos hxy]⟩ (by show n - (j + 1) < n - j; omega)
    · skip
      rw [show (!((x : Int) == (y : Int))) = true from by simp [hxy]]
      refine cw_cond_t (fun _ => by kernel_rfl) ?_
      refine cw_seq ?_
      refine cw_draw (fun v => Cl2 v ⟨g1, o1 + j * 1, none⟩ ⟨g2, o2 + j * 1, none⟩ (.int .u8 x) (.int .u8 y)) (by kernel_rfl) (hS.drew) ?_
      replace hB := hB.drew
      replace hS := hS.drew
      refine dt 0 27 (.slice (some ⟨g1, o1, none⟩) n c) (fun v hv _ => by kernel_rfl) hS ?_
      refine dt 1 28 (.int .i64 ((j : Nat) : Int)) (fun v hv _ => by kernel_rfl) hS ?_
      refine dt 2 29 (.pointer (some ⟨g1, o1 + j * 1, none⟩)) (fun v hv _ => ol_index 27 _ _ g1 o1 j n c 1 5 rfl (by kernel_rfl) (by kernel_rfl) hlt.1 Tryz.underlying27 (by kernel_rfl)) hS ?_
      refine dt 3 30 (.int .u8 x) (fun v hv _ => ol_cell 5 _ _ _ _ rfl (by kernel_rfl) hv.cx Tryz.underlying5 rfl) hS ?_
      refine dt 4 31 (.slice (some ⟨g2, o2, none⟩) n' c') (fun v hv _ => by kernel_rfl) hS ?_
      refine dt 5 32 (.int .i64 ((j : Nat) : Int)) (fun v hv _ => by kernel_rfl) hS ?_
      refine dt 6 33 (.pointer (some ⟨g2, o2 + j * 1, none⟩)) (fun v hv _ => ol_index 27 _ _ g2 o2 j n' c' 1 5 rfl (by kernel_rfl) (by kernel_rfl) hlt.2 Tryz.underlying27 (by kernel_rfl)) hS ?_
      refine dt 7 34 (.int .u8 y) (fun v hv _ => ol_cell 5 _ _ _ _ rfl (by kernel_rfl) hv.cy Tryz.underlying5 rfl) hS ?_
      refine dt 8 35 (.bool (decide ((x : Int) < (y : Int)))) (fun v hv _ => by kernel_rfl) hS ?_
      refine dt 9 4 (.bool (decide ((x : Int) < (y : Int)))) (fun v hv _ => by kernel_rfl) hS ?_
      refine dw_done (by kernel_rfl) ?_
      refine nw_then ?_
      refine cw_ret ?_
      refine nw_ret_block ?_
      refine nw_ret_then ?_
      refine nw_ret_then ?_
      refine nw_ret_block ?_
      refine nw_ret_then ?_
      exact nw_ret_body (.bool (decide ((x : Int) < (y : Int)))) (fun _ => by kernel_rfl) ⟨_, rfl, by rw [hst, if_neg hxy], hB⟩
  have hen := less_end (p := p) (q := q) (j := j) (by omega) (by omega) (by omega)
  rw [lp, lq] at hen
  by_cases hl1 : j < n
  · skip
    refine cw_seq ?_
    refine cw_seq ?_
    refine cw_region ?_
    refine rp 6 (.int .i64 ((j : Nat) : Int)) ?_
    refine rp 7 (.slice a n c) ?_
    refine rp 8 (.int .i64 n) ?_
    refine rv 9 (.bool true) (fun _ => ol_conv (v := .bool (decide (((j : Nat) : Int) < (n : Int)))) (by kernel_rfl) (congrArg Value.bool (decide_eq_true (by omega)))) ?_
    refine rp 10 (.bool true) ?_
    refine rp 11 (.int .i64 ((j : Nat) : Int)) ?_
    refine rp 12 (.slice a' n' c') ?_
    refine rp 13 (.int .i64 n') ?_
    refine rv 14 (.bool false) (fun _ => ol_conv (v := .bool (decide (((j : Nat) : Int) < (n' : Int)))) (by kernel_rfl) (congrArg Value.bool (decide_eq_false (by omega)))) ?_
    refine rp 15 (.bool false) ?_
    refine rw_nil ?_
    refine nw_then ?_
    refine cw_cond_f (fun _ => by kernel_rfl) ?_
    refine cw_exit ?_
    refine nw_exit_then ?_
    refine nw_exit_then ?_
    refine nw_exit_here ?_
    refine nw_then ?_
    refine cw_seq ?_
    refine cw_region ?_
    refine rp 36 (.slice a n c) ?_
    refine rp 37 (.int .i64 n) ?_
    refine rp 38 (.slice a' n' c') ?_
    refine rp 39 (.int .i64 n') ?_
    refine rp 40 (.bool (decide ((n : Int) < (n' : Int)))) ?_
    refine rp 4 (.bool (decide ((n : Int) < (n' : Int)))) ?_
    refine rw_nil ?_
    refine nw_then ?_
    refine cw_ret ?_
    exact nw_ret_body (.bool (decide ((n : Int) < (n' : Int)))) (fun _ => by kernel_rfl) ⟨_, rfl, by rw [← hL, hen]; congr 1; exact decide_eq_decide.2 (by omega), hB⟩
  · skip
    refine cw_seq ?_
    refine cw_seq ?_
    refine cw_region ?_
    refine rp 6 (.int .i64 ((j : Nat) : Int)) ?_
    refine rp 7 (.slice a n c) ?_
    refine rp 8 (.int .i64 n) ?_
    refine rv 9 (.bool false) (fun _ => ol_conv (v := .bool (decide (((j : Nat) : Int) < (n : Int)))) (by kernel_rfl) (congrArg Value.bool (decide_eq_false (by omega)))) ?_
    refine rp 10 (.bool false) ?_
    refine rw_off 11 (fun _ => by kernel_rfl) ?_
    refine rw_off 12 (fun _ => by kernel_rfl) ?_
    refine rw_off 13 (fun _ => by kernel_rfl) ?_
    refine rw_off 14 (fun _ => by kernel_rfl) ?_
    refine rp 15 (.bool false) ?_
    refine rw_nil ?_
    refine nw_then ?_
    refine cw_cond_f (fun _ => by kernel_rfl) ?_
    refine cw_exit ?_
    refine nw_exit_then ?_
    refine nw_exit_then ?_
    refine nw_exit_here ?_
    refine nw_then ?_
    refine cw_seq ?_
    refine cw_region ?_
    refine rp 36 (.slice a n c) ?_
    refine rp 37 (.int .i64 n) ?_
    refine rp 38 (.slice a' n' c') ?_
    refine rp 39 (.int .i64 n') ?_
    refine rp 40 (.bool (decide ((n : Int) < (n' : Int)))) ?_
    refine rp 4 (.bool (decide ((n : Int) < (n' : Int)))) ?_
    refine rw_nil ?_
    refine nw_then ?_
    refine cw_ret ?_
    exact nw_ret_body (.bool (decide ((n : Int) < (n' : Int)))) (fun _ => by kernel_rfl) ⟨_, rfl, by rw [← hL, hen]; congr 1; exact decide_eq_decide.2 (by omega), hB⟩
set_option maxHeartbeats 2000000 in
theorem at_any {K K' : Nat → Prop} {w : World} {a : Option Addr} {n c : Nat} {vs : List (Value × Value)} {l : PList} (hl : PAt K w a n c vs l) {ak : Option Addr} {nk ck : Nat} {k : List Int} (hk : Sk K' w ak nk ck k) (hb : n ≤ 2600000000000) (hlen : ∀ (j : Nat) k x, l[j]? = some (k, x) → k.length ≤ 1000000) :
    Calls Tryz.prog 37 #[.slice a n c, .slice ak nk ck] w fun e w' => ∃ u, e = .returned u ∧ (fun u w' => u = .tuple #[.int .i64 ((atN k l : Nat) : Int), .bool (isAt k l)] ∧ Bl w w') u w' := by
  have hB := Bl.refl w
  have ll := hl.ll
  refine cw_enter Tryz.func37 rfl 39 rfl ?_
  show CW _ _ _ _ _ _ _ [(0, .slice a n c), (1, .slice ak nk ck)] _
  refine cw_seq ?_
  refine cw_region ?_
  refine rp 4 (.int .i64 0) ?_
  refine rp 5 (.bool false) ?_
  refine rw_nil ?_
  refine nw_then ?_
  refine cw_seq ?_
  refine cw_region ?_
  refine rp 6 (.int .i64 0) ?_
  refine rw_nil ?_
  refine nw_then ?_
  refine cw_seq ?_
  refine cw_block ?_
  refine cw_loop (X := Nat) (fun j => [(6, .int .i64 ((j : Nat) : Int)), (0, .slice a n c), (1, .slice ak nk ck)]) (fun j v => Bl w v ∧ j ≤ n ∧ atN k (l.drop j) + j = atN k l) (fun j => n - j) 0 (by exact ⟨fun _ => by kernel_rfl, ⟨fun _ => by kernel_rfl, ⟨fun _ => by kernel_rfl, trivial⟩⟩⟩) ⟨hB, Nat.zero_le _, by simp⟩ ?_
  clear hB
  rintro j v ⟨hB, hj1, hA⟩
  by_cases hlt : j < n
  · skip
    obtain ⟨g, off, a1, n1, c1, a2, n2, c2, k1, x1, ea, hej, hc1, hc2, hs1, hs2⟩ := (hl.go hB).at hlt
    subst ea
    have hst := atN_drop (k := k) (l := l) (j := j) (by omega) hej
    have hS : Cl2 v ⟨g, off + j * 2, none⟩ ⟨g, off + j * 2 + 1, none⟩ (.slice a1 n1 c1) (.slice a2 n2 c2) := ⟨hc1, hc2⟩
    refine cw_seq ?_
    refine cw_seq ?_
    refine cw_region ?_
    refine rp 8 (.int .i64 ((j : Nat) : Int)) ?_
    refine rp 9 (.slice (some ⟨g, off, none⟩) n c) ?_
    refine rp 10 (.int .i64 n) ?_
    refine rv 11 (.bool true) (fun _ => ol_conv (v := .bool (decide (((j : Nat) : Int) < (n : Int)))) (by kernel_rfl) (congrArg Value.bool (decide_eq_true (by omega)))) ?_
    refine rw_nil ?_
    refine nw_then ?_
    refine cw_cond_t (fun _ => by kernel_rfl) ?_
    refine cw_skip ?_
    refine nw_then ?_
    refine cw_block ?_
    refine cw_seq ?_
    refine cw_region ?_
    refine rp 12 (.slice (some ⟨g, off, none⟩) n c) ?_
    refine rp 13 (.int .i64 ((j : Nat) : Int)) ?_
    refine rv 14 (.pointer (some ⟨g, off + j * 2, none⟩)) (fun _ => ol_index 26 _ _ g off j n c 2 45 rfl (by kernel_rfl) (by kernel_rfl) hlt Tryz.underlying26 (by kernel_rfl)) ?_
    refine rp 15 (.pointer (some ⟨g, off + j * 2, none⟩)) ?_
    refine rv 16 (.slice a1 n1 c1) (fun _ => ol_cell 27 _ _ _ _ rfl (by kernel_rfl) hS.cx Tryz.underlying27 rfl) ?_
    refine rp 17 (.slice ak nk ck) ?_
    refine rw_call 18 53 #[.slice a1 n1 c1, .slice ak nk ck] (fun _ => by kernel_rfl) (fun _ => by kernel_rfl) (R := fun u w' => u = .bool (lessP k1 k) ∧ Bl (v) w') ((ahead_any hs1 (hk.go hB) (by have := hlen j k1 x1 hej; have := hs1.len; omega))) ?_
    rintro _ u1 ⟨rfl, hb2⟩
    replace hB := hB.go hb2
    replace hS := hS.go hb2
    replace hs1 := hs1.go hb2
    refine rp 7 (.bool (lessP k1 k)) ?_
    refine rw_nil ?_
    refine nw_then ?_
    refine cw_seq ?_
    refine cw_seq ?_
    refine cw_region ?_
    refine rp 19 (.bool (lessP k1 k)) ?_
    refine rp 20 (.bool (!(lessP k1 k))) ?_
    refine rw_nil ?_
    refine nw_then ?_
    by_cases hah : lessP k1 k = true
    · skip
      rw [hah]
      show CW _ _ _ _ _ _ _ [(20, .bool false), (19, .bool true), (7, .bool true), (18, .bool true), (17, .slice ak nk ck), (16, .slice a1 n1 c1), (15, .pointer (some ⟨g, off + j * 2, none⟩)), (14, .pointer (some ⟨g, off + j * 2, none⟩)), (13, .int .i64 ((j : Nat) : Int)), (12, .slice (some ⟨g, off, none⟩) n c), (11, .bool true), (10, .int .i64 n), (9, .slice (some ⟨g, off, none⟩) n c), (8, .int .i64 ((j : Nat) : Int)), (6, .int .i64 ((j : Nat) : Int)), (0, .slice (some ⟨g, off, none⟩) n c), (1, .slice ak nk ck)] _
      refine cw_cond_f (fun _ => by kernel_rfl) ?_
      refine cw_skip ?_
      refine nw_then ?_
      refine cw_region ?_
      refine rp 21 (.int .i64 ((j : Nat) : Int)) ?_
      refine rv 22 (.int .i64 (((j : Nat) : Int) + 1)) (fun _ => ol_conv (v := .int .i64 (IntKind.i64.wrap (((j : Nat) : Int) + 1))) (by kernel_rfl) (congrArg (Value.int .i64) (wrap64 (by omega) (by omega)))) ?_
      refine rp 6 (.int .i64 (((j : Nat) : Int) + 1)) ?_
      refine rw_nil ?_
      refine nw_block ?_
      exact nw_round (E := fun j => [(6, .int .i64 ((j : Nat) : Int)), (0, .slice (some ⟨g, off, none⟩) n c), (1, .slice ak nk ck)]) (R := fun j v => Bl w v ∧ j ≤ n ∧ atN k (l.drop j) + j = atN k l) (μ := fun j => n - j) (x := j) (j + 1) (by exact ⟨fun _ => by kernel_rfl, ⟨fun _ => by kernel_rfl, ⟨fun _ => by kernel_rfl, trivial⟩⟩⟩) ⟨hB, by omega, by rw [if_pos hah] at hst; omega⟩ (by show n - (j + 1) < n - j; omega)
    · skip
      replace hah : lessP k1 k = false := by simpa using hah
      have hjn : atN k l = j := by rw [hst, if_neg (by rw [hah]; exact Bool.false_ne_true)] at hA; omega
      rw [hah]
      show CW _ _ _ _ _ _ _ [(20, .bool true), (19, .bool false), (7, .bool false), (18, .bool false), (17, .slice ak nk ck), (16, .slice a1 n1 c1), (15, .pointer (some ⟨g, off + j * 2, none⟩)), (14, .pointer (some ⟨g, off + j * 2, none⟩)), (13, .int .i64 ((j : Nat) : Int)), (12, .slice (some ⟨g, off, none⟩) n c), (11, .bool true), (10, .int .i64 n), (9, .slice (some ⟨g, off, none⟩) n c), (8, .int .i64 ((j : Nat) : Int)), (6, .int .i64 ((j : Nat) : Int)), (0, .slice (some ⟨g, off, none⟩) n c), (1, .slice ak nk ck)] _
      refine cw_cond_t (fun _ => by kernel_rfl) ?_
      refine cw_exit ?_
      refine nw_exit_then ?_
      refine nw_exit_past rfl ?_
      refine nw_exit_then ?_
      refine nw_exit_here ?_
      refine nw_then ?_
      refine cw_seq ?_
      have hZ : Cl2 u1 ⟨g, off + j * 2, none⟩ ⟨g, off + j * 2 + 1, none⟩ (.slice a1 n1 c1) (.slice a2 n2 c2) ∧ Sk K u1 a1 n1 c1 k1 ∧ Sk K' u1 ak nk ck k := ⟨hS, hs1, hk.go hB⟩
      refine cw_draw (fun v => Cl2 v ⟨g, off + j * 2, none⟩ ⟨g, off + j * 2 + 1, none⟩ (.slice a1 n1 c1) (.slice a2 n2 c2) ∧ Sk K v a1 n1 c1 k1 ∧ Sk K' v ak nk ck k) (by kernel_rfl) (⟨hZ.1.drew, hZ.2.1.drew, hZ.2.2.drew⟩) ?_
      replace hB := hB.drew
      refine dt 0 23 (.int .i64 ((j : Nat) : Int)) (fun v hv _ => by kernel_rfl) (show Cl2 u1.drew ⟨g, off + j * 2, none⟩ ⟨g, off + j * 2 + 1, none⟩ (.slice a1 n1 c1) (.slice a2 n2 c2) ∧ Sk K u1.drew a1 n1 c1 k1 ∧ Sk K' u1.drew ak nk ck k from ⟨hZ.1.drew, hZ.2.1.drew, hZ.2.2.drew⟩) ?_
      refine dt 1 24 (.int .i64 ((j : Nat) : Int)) (fun v hv _ => by kernel_rfl) (show Cl2 u1.drew ⟨g, off + j * 2, none⟩ ⟨g, off + j * 2 + 1, none⟩ (.slice a1 n1 c1) (.slice a2 n2 c2) ∧ Sk K u1.drew a1 n1 c1 k1 ∧ Sk K' u1.drew ak nk ck k from ⟨hZ.1.drew, hZ.2.1.drew, hZ.2.2.drew⟩) ?_
      refine dt 2 25 (.slice (some ⟨g, off, none⟩) n c) (fun v hv _ => by kernel_rfl) (show Cl2 u1.drew ⟨g, off + j * 2, none⟩ ⟨g, off + j * 2 + 1, none⟩ (.slice a1 n1 c1) (.slice a2 n2 c2) ∧ Sk K u1.drew a1 n1 c1 k1 ∧ Sk K' u1.drew ak nk ck k from ⟨hZ.1.drew, hZ.2.1.drew, hZ.2.2.drew⟩) ?_
      refine dt 3 26 (.int .i64 n) (fun v hv _ => by kernel_rfl) (show Cl2 u1.drew ⟨g, off + j * 2, none⟩ ⟨g, off + j * 2 + 1, none⟩ (.slice a1 n1 c1) (.slice a2 n2 c2) ∧ Sk K u1.drew a1 n1 c1 k1 ∧ Sk K' u1.drew ak nk ck k from ⟨hZ.1.drew, hZ.2.1.drew, hZ.2.2.drew⟩) ?_
      refine dt 4 27 (.bool true) (fun v hv => (fun _ => ol_conv (v := .bool (decide (((j : Nat) : Int) < (n : Int)))) (by kernel_rfl) (congrArg Value.bool (decide_eq_true (by omega))))) (show Cl2 u1.drew ⟨g, off + j * 2, none⟩ ⟨g, off + j * 2 + 1, none⟩ (.slice a1 n1 c1) (.slice a2 n2 c2) ∧ Sk K u1.drew a1 n1 c1 k1 ∧ Sk K' u1.drew ak nk ck k from ⟨hZ.1.drew, hZ.2.1.drew, hZ.2.2.drew⟩) ?_
      refine dt 5 28 (.bool true) (fun v hv _ => by kernel_rfl) (show Cl2 u1.drew ⟨g, off + j * 2, none⟩ ⟨g, off + j * 2 + 1, none⟩ (.slice a1 n1 c1) (.slice a2 n2 c2) ∧ Sk K u1.drew a1 n1 c1 k1 ∧ Sk K' u1.drew ak nk ck k from ⟨hZ.1.drew, hZ.2.1.drew, hZ.2.2.drew⟩) ?_
      refine dt 6 29 (.slice (some ⟨g, off, none⟩) n c) (fun v hv _ => by kernel_rfl) (show Cl2 u1.drew ⟨g, off + j * 2, none⟩ ⟨g, off + j * 2 + 1, none⟩ (.slice a1 n1 c1) (.slice a2 n2 c2) ∧ Sk K u1.drew a1 n1 c1 k1 ∧ Sk K' u1.drew ak nk ck k from ⟨hZ.1.drew, hZ.2.1.drew, hZ.2.2.drew⟩) ?_
      refine dt 7 30 (.int .i64 ((j : Nat) : Int)) (fun v hv _ => by kernel_rfl) (show Cl2 u1.drew ⟨g, off + j * 2, none⟩ ⟨g, off + j * 2 + 1, none⟩ (.slice a1 n1 c1) (.slice a2 n2 c2) ∧ Sk K u1.drew a1 n1 c1 k1 ∧ Sk K' u1.drew ak nk ck k from ⟨hZ.1.drew, hZ.2.1.drew, hZ.2.2.drew⟩) ?_
      refine dt 8 31 (.pointer (some ⟨g, off + j * 2, none⟩)) (fun v hv _ => ol_index 26 _ _ g off j n c 2 45 rfl (by kernel_rfl) (by kernel_rfl) hlt Tryz.underlying26 (by kernel_rfl)) (show Cl2 u1.drew ⟨g, off + j * 2, none⟩ ⟨g, off + j * 2 + 1, none⟩ (.slice a1 n1 c1) (.slice a2 n2 c2) ∧ Sk K u1.drew a1 n1 c1 k1 ∧ Sk K' u1.drew ak nk ck k from ⟨hZ.1.drew, hZ.2.1.drew, hZ.2.2.drew⟩) ?_
      refine dt 9 32 (.pointer (some ⟨g, off + j * 2, none⟩)) (fun v hv _ => by kernel_rfl) (show Cl2 u1.drew ⟨g, off + j * 2, none⟩ ⟨g, off + j * 2 + 1, none⟩ (.slice a1 n1 c1) (.slice a2 n2 c2) ∧ Sk K u1.drew a1 n1 c1 k1 ∧ Sk K' u1.drew ak nk ck k from ⟨hZ.1.drew, hZ.2.1.drew, hZ.2.2.drew⟩) ?_
      refine dt 10 33 (.slice a1 n1 c1) (fun v hv _ => ol_cell 27 _ _ _ _ rfl (by kernel_rfl) hv.1.cx Tryz.underlying27 rfl) (show Cl2 u1.drew ⟨g, off + j * 2, none⟩ ⟨g, off + j * 2 + 1, none⟩ (.slice a1 n1 c1) (.slice a2 n2 c2) ∧ Sk K u1.drew a1 n1 c1 k1 ∧ Sk K' u1.drew ak nk ck k from ⟨hZ.1.drew, hZ.2.1.drew, hZ.2.2.drew⟩) ?_
      refine dt 11 34 (.string (strOfNums k1)) (fun v hv _ => hv.2.1.run_str _ _ _ rfl (by kernel_rfl)) (show Cl2 u1.drew ⟨g, off + j * 2, none⟩ ⟨g, off + j * 2 + 1, none⟩ (.slice a1 n1 c1) (.slice a2 n2 c2) ∧ Sk K u1.drew a1 n1 c1 k1 ∧ Sk K' u1.drew ak nk ck k from ⟨hZ.1.drew, hZ.2.1.drew, hZ.2.2.drew⟩) ?_
      refine dt 12 35 (.slice ak nk ck) (fun v hv _ => by kernel_rfl) (show Cl2 u1.drew ⟨g, off + j * 2, none⟩ ⟨g, off + j * 2 + 1, none⟩ (.slice a1 n1 c1) (.slice a2 n2 c2) ∧ Sk K u1.drew a1 n1 c1 k1 ∧ Sk K' u1.drew ak nk ck k from ⟨hZ.1.drew, hZ.2.1.drew, hZ.2.2.drew⟩) ?_
      refine dt 13 36 (.string (strOfNums k)) (fun v hv _ => hv.2.2.run_str _ _ _ rfl (by kernel_rfl)) (show Cl2 u1.drew ⟨g, off + j * 2, none⟩ ⟨g, off + j * 2 + 1, none⟩ (.slice a1 n1 c1) (.slice a2 n2 c2) ∧ Sk K u1.drew a1 n1 c1 k1 ∧ Sk K' u1.drew ak nk ck k from ⟨hZ.1.drew, hZ.2.1.drew, hZ.2.2.drew⟩) ?_
      refine dt 14 37 (.bool (decide (k1 = k))) (fun v hv _ => ol_eqs 9 _ _ _ _ _ rfl (by kernel_rfl) (by kernel_rfl) (strs_eq hs1.ag.b hk.ag.b)) (show Cl2 u1.drew ⟨g, off + j * 2, none⟩ ⟨g, off + j * 2 + 1, none⟩ (.slice a1 n1 c1) (.slice a2 n2 c2) ∧ Sk K u1.drew a1 n1 c1 k1 ∧ Sk K' u1.drew ak nk ck k from ⟨hZ.1.drew, hZ.2.1.drew, hZ.2.2.drew⟩) ?_
      refine dt 15 38 (.bool (decide (k1 = k))) (fun v hv _ => by kernel_rfl) (show Cl2 u1.drew ⟨g, off + j * 2, none⟩ ⟨g, off + j * 2 + 1, none⟩ (.slice a1 n1 c1) (.slice a2 n2 c2) ∧ Sk K u1.drew a1 n1 c1 k1 ∧ Sk K' u1.drew ak nk ck k from ⟨hZ.1.drew, hZ.2.1.drew, hZ.2.2.drew⟩) ?_
      refine dt 16 4 (.int .i64 ((j : Nat) : Int)) (fun v hv _ => by kernel_rfl) (show Cl2 u1.drew ⟨g, off + j * 2, none⟩ ⟨g, off + j * 2 + 1, none⟩ (.slice a1 n1 c1) (.slice a2 n2 c2) ∧ Sk K u1.drew a1 n1 c1 k1 ∧ Sk K' u1.drew ak nk ck k from ⟨hZ.1.drew, hZ.2.1.drew, hZ.2.2.drew⟩) ?_
      refine dt 17 5 (.bool (decide (k1 = k))) (fun v hv _ => by kernel_rfl) (show Cl2 u1.drew ⟨g, off + j * 2, none⟩ ⟨g, off + j * 2 + 1, none⟩ (.slice a1 n1 c1) (.slice a2 n2 c2) ∧ Sk K u1.drew a1 n1 c1 k1 ∧ Sk K' u1.drew ak nk ck k from ⟨hZ.1.drew, hZ.2.1.drew, hZ.2.2.drew⟩) ?_
      refine dw_done (by kernel_rfl) ?_
      refine nw_then ?_
      refine cw_ret ?_
      exact nw_ret_body (.tuple #[.int .i64 ((j : Nat) : Int), .bool (decide (k1 = k))]) (fun _ => by kernel_rfl) ⟨_, rfl, by rw [hjn, isAt_of hjn hej], hB⟩
  have hjn : atN k l = l.length := by rw [List.drop_eq_nil_of_le (by omega)] at hA; simp only [atN] at hA; omega
  have hS : True := trivial
  refine cw_seq ?_
  refine cw_seq ?_
  refine cw_region ?_
  refine rp 8 (.int .i64 ((j : Nat) : Int)) ?_
  refine rp 9 (.slice a n c) ?_
  refine rp 10 (.int .i64 n) ?_
  refine rv 11 (.bool false) (fun _ => ol_conv (v := .bool (decide (((j : Nat) : Int) < (n : Int)))) (by kernel_rfl) (congrArg Value.bool (decide_eq_false (by omega)))) ?_
  refine rw_nil ?_
  refine nw_then ?_
  refine cw_cond_f (fun _ => by kernel_rfl) ?_
  refine cw_exit ?_
  refine nw_exit_then ?_
  refine nw_exit_then ?_
  refine nw_exit_here ?_
  refine nw_then ?_
  refine cw_seq ?_
  refine cw_draw (fun _ => True) (by kernel_rfl) (trivial) ?_
  replace hB := hB.drew
  refine dt 0 23 (.int .i64 ((j : Nat) : Int)) (fun v hv _ => by kernel_rfl) trivial ?_
  refine dt 1 24 (.int .i64 ((j : Nat) : Int)) (fun v hv _ => by kernel_rfl) trivial ?_
  refine dt 2 25 (.slice a n c) (fun v hv _ => by kernel_rfl) trivial ?_
  refine dt 3 26 (.int .i64 n) (fun v hv _ => by kernel_rfl) trivial ?_
  refine dt 4 27 (.bool false) (fun v hv => (fun _ => ol_conv (v := .bool (decide (((j : Nat) : Int) < (n : Int)))) (by kernel_rfl) (congrArg Value.bool (decide_eq_false (by omega))))) trivial ?_
  refine dt 5 28 (.bool false) (fun v hv _ => by kernel_rfl) trivial ?_
  refine df 6 29 trivial ?_
  refine df 7 30 trivial ?_
  refine df 8 31 trivial ?_
  refine df 9 32 trivial ?_
  refine df 10 33 trivial ?_
  refine df 11 34 trivial ?_
  refine df 12 35 trivial ?_
  refine df 13 36 trivial ?_
  refine df 14 37 trivial ?_
  refine dt 15 38 (.bool false) (fun v hv _ => by kernel_rfl) trivial ?_
  refine dt 16 4 (.int .i64 ((j : Nat) : Int)) (fun v hv _ => by kernel_rfl) trivial ?_
  refine dt 17 5 (.bool false) (fun v hv _ => by kernel_rfl) trivial ?_
  refine dw_done (by kernel_rfl) ?_
  refine nw_then ?_
  refine cw_ret ?_
  exact nw_ret_body (.tuple #[.int .i64 ((j : Nat) : Int), .bool false]) (fun _ => by kernel_rfl) ⟨_, rfl, by rw [isAt_end hjn, hjn, show j = l.length from by omega], hB⟩
theorem isAt_key {k : List Int} {l : PList} {j : Nat} (h : isAt k l = true) (hj : atN k l = j) {k1 x1 : List Int} (he : l[j]? = some (k1, x1)) : k1 = k := by
  rw [isAt_of hj he] at h; exact of_decide_eq_true h
set_option maxHeartbeats 1000000 in
theorem rget_long {K K' : Nat → Prop} {w : World} {a : Option Addr} {n c : Nat} {vs : List (Value × Value)} {l : PList} (hl : PAt K w a n c vs l) {ak : Option Addr} {nk ck : Nat} {k : List Int} (hk : Sk K' w ak nk ck k) (hb : n ≤ 2600000000000) (hn : 32 < nk) :
    Calls Tryz.prog 17 #[.slice a n c, .slice ak nk ck] w fun e w' => ∃ u, e = .returned u ∧ (fun u w' => u = .tuple #[.slice none 0 0, .bool false, .int .i64 70] ∧ Bl w w') u w' := by
  have hB := Bl.refl w
  have lk := hk.len
  have ll := hl.ll
  refine cw_enter Tryz.func17 rfl 25 rfl ?_
  show CW _ _ _ _ _ _ _ [(0, .slice a n c), (1, .slice ak nk ck)] _
  refine cw_seq ?_
  refine cw_region ?_
  refine rp 4 (.slice none 0 0) ?_
  refine rp 5 (.bool false) ?_
  refine rp 6 (.int .i64 0) ?_
  refine rw_nil ?_
  refine nw_then ?_
  refine cw_seq ?_
  refine cw_seq ?_
  refine cw_region ?_
  refine rp 9 (.slice ak nk ck) ?_
  refine rp 10 (.int .i64 nk) ?_
  refine rv 11 (.bool true) (fun _ => ol_conv (v := .bool (decide ((nk : Int) > (32 : Int)))) (by kernel_rfl) (congrArg Value.bool (decide_eq_true (by omega)))) ?_
  refine rw_nil ?_
  refine nw_then ?_
  refine cw_cond_t (fun _ => by kernel_rfl) ?_
  refine cw_seq ?_
  refine cw_region ?_
  refine rp 4 (.slice none 0 0) ?_
  refine rp 5 (.bool false) ?_
  refine rp 6 (.int .i64 70) ?_
  refine rw_nil ?_
  refine nw_then ?_
  refine cw_ret ?_
  refine nw_ret_then ?_
  exact nw_ret_body (.tuple #[.slice none 0 0, .bool false, .int .i64 70]) (fun _ => by kernel_rfl) ⟨_, rfl, rfl, hB⟩
set_option maxHeartbeats 1000000 in
theorem rget_is {K K' : Nat → Prop} {w : World} {a : Option Addr} {n c : Nat} {vs : List (Value × Value)} {l : PList} (hl : PAt K w a n c vs l) {ak : Option Addr} {nk ck : Nat} {k : List Int} (hk : Sk K' w ak nk ck k) (hb : n ≤ 2600000000000) (hlen : ∀ (j : Nat) k x, l[j]? = some (k, x) → k.length ≤ 1000000) (hn : nk ≤ 32) (hat : isAt k l = true) :
    Calls Tryz.prog 17 #[.slice a n c, .slice ak nk ck] w fun e w' => ∃ u, e = .returned u ∧ (fun u w' => (∃ a2 n2 c2, u = .tuple #[.slice a2 n2 c2, .bool true, .int .i64 0] ∧ ∃ x, l[atN k l]? = some (k, x) ∧ Sk K w' a2 n2 c2 x) ∧ Bl w w') u w' := by
  have hB := Bl.refl w
  have lk := hk.len
  have ll := hl.ll
  refine cw_enter Tryz.func17 rfl 25 rfl ?_
  show CW _ _ _ _ _ _ _ [(0, .slice a n c), (1, .slice ak nk ck)] _
  refine cw_seq ?_
  refine cw_region ?_
  refine rp 4 (.slice none 0 0) ?_
  refine rp 5 (.bool false) ?_
  refine rp 6 (.int .i64 0) ?_
  refine rw_nil ?_
  refine nw_then ?_
  refine cw_seq ?_
  refine cw_seq ?_
  refine cw_region ?_
  refine rp 9 (.slice ak nk ck) ?_
  refine rp 10 (.int .i64 nk) ?_
  refine rv 11 (.bool false) (fun _ => ol_conv (v := .bool (decide ((nk : Int) > (32 : Int)))) (by kernel_rfl) (congrArg Value.bool (decide_eq_false (by omega)))) ?_
  refine rw_nil ?_
  refine nw_then ?_
  refine cw_cond_f (fun _ => by kernel_rfl) ?_
  refine cw_skip ?_
  refine nw_then ?_
  refine cw_seq ?_
  refine cw_region ?_
  refine rp 13 (.slice a n c) ?_
  refine rp 14 (.slice ak nk ck) ?_
  refine rw_call 15 37 #[.slice a n c, .slice ak nk ck] (fun _ => by kernel_rfl) (fun _ => by kernel_rfl) (R := fun u w' => u = .tuple #[.int .i64 ((atN k l : Nat) : Int), .bool (isAt k l)] ∧ Bl (w) w') ((at_any (hl.go hB) (hk.go hB) hb hlen)) ?_
  rintro _ u1 ⟨rfl, hb2⟩
  replace hB := hB.go hb2
  rw [hat]
  refine rp 12 (.tuple #[.int .i64 ((atN k l : Nat) : Int), .bool true]) ?_
  refine rp 16 (.int .i64 ((atN k l : Nat) : Int)) ?_
  refine rp 17 (.bool true) ?_
  refine rp 7 (.int .i64 ((atN k l : Nat) : Int)) ?_
  refine rp 8 (.bool true) ?_
  refine rw_nil ?_
  refine nw_then ?_
  refine cw_seq ?_
  refine cw_seq ?_
  refine cw_region ?_
  refine rp 18 (.bool true) ?_
  refine rp 19 (.bool false) ?_
  refine rw_nil ?_
  refine nw_then ?_
  refine cw_cond_f (fun _ => by kernel_rfl) ?_
  refine cw_skip ?_
  refine nw_then ?_
  refine cw_seq ?_
  have hlt : atN k l < n := by by_cases h : atN k l < n; exact h; have := atN_le k l; rw [isAt_end (by omega)] at hat; cases hat
  obtain ⟨j, ej⟩ : ∃ j, atN k l = j := ⟨_, rfl⟩
  rw [ej] at hlt ⊢
  obtain ⟨g, off, a1, n1, c1, a2, n2, c2, k1, x1, ea, hej, hc1, hc2, hs1, hs2⟩ := (hl.go hB).at hlt
  subst ea
  show CW _ _ _ _ _ _ _ [(19, .bool false), (18, .bool true), (8, .bool true), (7, .int .i64 ((j : Nat) : Int)), (17, .bool true), (16, .int .i64 ((j : Nat) : Int)), (12, .tuple #[.int .i64 ((j : Nat) : Int), .bool true]), (15, .tuple #[.int .i64 ((j : Nat) : Int), .bool true]), (14, .slice ak nk ck), (13, .slice (some ⟨g, off, none⟩) n c), (11, .bool false), (10, .int .i64 nk), (9, .slice ak nk ck), (6, .int .i64 0), (5, .bool false), (4, .slice none 0 0), (0, .slice (some ⟨g, off, none⟩) n c), (1, .slice ak nk ck)] _
  refine cw_region ?_
  refine rp 20 (.slice (some ⟨g, off, none⟩) n c) ?_
  refine rp 21 (.int .i64 ((j : Nat) : Int)) ?_
  refine rv 22 (.pointer (some ⟨g, off + j * 2, none⟩)) (fun _ => ol_index 26 _ _ g off j n c 2 45 rfl (by kernel_rfl) (by kernel_rfl) hlt Tryz.underlying26 (by kernel_rfl)) ?_
  refine rp 23 (.pointer (some ⟨g, off + j * 2 + 1, none⟩)) ?_
  refine rv 24 (.slice a2 n2 c2) (fun _ => ol_cell 27 _ _ _ _ rfl (by kernel_rfl) hc2 Tryz.underlying27 rfl) ?_
  refine rp 4 (.slice a2 n2 c2) ?_
  refine rp 5 (.bool true) ?_
  refine rp 6 (.int .i64 0) ?_
  refine rw_nil ?_
  refine nw_then ?_
  refine cw_ret ?_
  exact nw_ret_body (.tuple #[.slice a2 n2 c2, .bool true, .int .i64 0]) (fun _ => by kernel_rfl) ⟨_, rfl, ⟨a2, n2, c2, rfl, x1, by rw [← isAt_key hat ej hej]; exact hej, hs2⟩, hB⟩
set_option maxHeartbeats 1000000 in
theorem rget_not {K K' : Nat → Prop} {w : World} {a : Option Addr} {n c : Nat} {vs : List (Value × Value)} {l : PList} (hl : PAt K w a n c vs l) {ak : Option Addr} {nk ck : Nat} {k : List Int} (hk : Sk K' w ak nk ck k) (hb : n ≤ 2600000000000) (hlen : ∀ (j : Nat) k x, l[j]? = some (k, x) → k.length ≤ 1000000) (hn : nk ≤ 32) (hat : isAt k l = false) :
    Calls Tryz.prog 17 #[.slice a n c, .slice ak nk ck] w fun e w' => ∃ u, e = .returned u ∧ (fun u w' => u = .tuple #[.slice none 0 0, .bool false, .int .i64 0] ∧ Bl w w') u w' := by
  have hB := Bl.refl w
  have lk := hk.len
  have ll := hl.ll
  refine cw_enter Tryz.func17 rfl 25 rfl ?_
  show CW _ _ _ _ _ _ _ [(0, .slice a n c), (1, .slice ak nk ck)] _
  refine cw_seq ?_
  refine cw_region ?_
  refine rp 4 (.slice none 0 0) ?_
  refine rp 5 (.bool false) ?_
  refine rp 6 (.int .i64 0) ?_
  refine rw_nil ?_
  refine nw_then ?_
  refine cw_seq ?_
  refine cw_seq ?_
  refine cw_region ?_
  refine rp 9 (.slice ak nk ck) ?_
  refine rp 10 (.int .i64 nk) ?_
  refine rv 11 (.bool false) (fun _ => ol_conv (v := .bool (decide ((nk : Int) > (32 : Int)))) (by kernel_rfl) (congrArg Value.bool (decide_eq_false (by omega)))) ?_
  refine rw_nil ?_
  refine nw_then ?_
  refine cw_cond_f (fun _ => by kernel_rfl) ?_
  refine cw_skip ?_
  refine nw_then ?_
  refine cw_seq ?_
  refine cw_region ?_
  refine rp 13 (.slice a n c) ?_
  refine rp 14 (.slice ak nk ck) ?_
  refine rw_call 15 37 #[.slice a n c, .slice ak nk ck] (fun _ => by kernel_rfl) (fun _ => by kernel_rfl) (R := fun u w' => u = .tuple #[.int .i64 ((atN k l : Nat) : Int), .bool (isAt k l)] ∧ Bl (w) w') ((at_any (hl.go hB) (hk.go hB) hb hlen)) ?_
  rintro _ u1 ⟨rfl, hb2⟩
  replace hB := hB.go hb2
  rw [hat]
  refine rp 12 (.tuple #[.int .i64 ((atN k l : Nat) : Int), .bool false]) ?_
  refine rp 16 (.int .i64 ((atN k l : Nat) : Int)) ?_
  refine rp 17 (.bool false) ?_
  refine rp 7 (.int .i64 ((atN k l : Nat) : Int)) ?_
  refine rp 8 (.bool false) ?_
  refine rw_nil ?_
  refine nw_then ?_
  refine cw_seq ?_
  refine cw_seq ?_
  refine cw_region ?_
  refine rp 18 (.bool false) ?_
  refine rp 19 (.bool true) ?_
  refine rw_nil ?_
  refine nw_then ?_
  refine cw_cond_t (fun _ => by kernel_rfl) ?_
  refine cw_seq ?_
  refine cw_region ?_
  refine rp 4 (.slice none 0 0) ?_
  refine rp 5 (.bool false) ?_
  refine rp 6 (.int .i64 0) ?_
  refine rw_nil ?_
  refine nw_then ?_
  refine cw_ret ?_
  refine nw_ret_then ?_
  exact nw_ret_body (.tuple #[.slice none 0 0, .bool false, .int .i64 0]) (fun _ => by kernel_rfl) ⟨_, rfl, rfl, hB⟩
end Go.Proofs.YtalhnnjpjaeakaaGreat
/- The document's Put, Delete on a list of keys and values. -/
namespace Go.Proofs.YtalhnnjpjaeakaaGreat
open Go.RowKit
open Tr
set_option linter.unusedVariables false
set_option maxRecDepth 100000
theorem ownB_new0 {w w' : World} {g base : Nat} (h : New w w' g #[] 5) (hb : base ≤ w.heap.size) : OwnB w' base (.slice (some ⟨g, 0, none⟩) 0 0) [] := ⟨rfl, .inr ⟨g, 0, #[], rfl, by rw [h.hg]; exact hb, h.row, Nat.le_refl _, by unfold maxLen; omega, rfl, rfl⟩⟩
theorem ol_appP {w w' : World} {v u r : Value} {ρ : Operand → Value} {o : Oper} (hr : ∀ ty, (Builtin.append_ #[26, 26] ty #[v, u]).run Tryz.prog w = .ok r w') (x y : Operand) (ho : o.op = .call { callee := .builtin .append, args := #[x, y], argTypes := #[26, 26] }) (hx : ρ x = v) (hy : ρ y = u) : (execOp ρ o).run Tryz.prog w = .ok (.value r) w' := by
  unfold execOp
  simp only [ho, resolve, invoke, builtin, Sem.run_bind, Sem.run_pure, Result.andThen_ok, List.map_toArray, List.map_cons, List.map_nil, hx, hy, hr]
set_option maxHeartbeats 2000000 in
theorem rput_long {K K' : Nat → Prop} {w : World} {a : Option Addr} {n c : Nat} {vs : List (Value × Value)} {l : PList} (hl : PAt K w a n c vs l) {ak : Option Addr} {nk ck : Nat} {k : List Int} (hk : Sk K' w ak nk ck k) (hb : n ≤ 2600000000000) {K2 : Nat → Prop} {av : Option Addr} {nv cv : Nat} {x : List Int} (hx : Sk K2 w av nv cv x) (hlen : ∀ (j : Nat) k x, l[j]? = some (k, x) → k.length ≤ 1000000) (hn : 32 < nk) :
    Calls Tryz.prog 16 #[.slice a n c, .slice ak nk ck, .slice av nv cv] w fun e w' => ∃ u, e = .returned u ∧ (fun u w' => (∃ a n c vs, u = .tuple #[.slice a n c, .int .i64 (putE k x)] ∧ PAt (fun b => K b ∨ w.heap.size ≤ b) w' a n c vs (putL l k x)) ∧ Bl w w') u w' := by
  have hB := Bl.refl w
  have lk := hk.len
  have lx := hx.len
  have ll := hl.ll
  refine cw_enter Tryz.func16 rfl 53 rfl ?_
  show CW _ _ _ _ _ _ _ [(0, .slice a n c), (1, .slice ak nk ck), (2, .slice av nv cv)] _
  refine cw_seq ?_
  refine cw_region ?_
  refine rp 6 (.slice none 0 0) ?_
  refine rp 7 (.int .i64 0) ?_
  refine rw_nil ?_
  refine nw_then ?_
  refine cw_seq ?_
  refine cw_seq ?_
  refine cw_region ?_
  refine rp 11 (.slice ak nk ck) ?_
  refine rp 12 (.int .i64 nk) ?_
  refine rv 13 (.bool true) (fun _ => ol_conv (v := .bool (decide ((nk : Int) > (32 : Int)))) (by kernel_rfl) (congrArg Value.bool (decide_eq_true (by omega)))) ?_
  refine rw_nil ?_
  refine nw_then ?_
  refine cw_cond_t (fun _ => by kernel_rfl) ?_
  refine cw_seq ?_
  refine cw_region ?_
  refine rp 14 (.slice a n c) ?_
  refine rp 6 (.slice a n c) ?_
  refine rp 7 (.int .i64 70) ?_
  refine rw_nil ?_
  refine nw_then ?_
  refine cw_ret ?_
  refine nw_ret_then ?_
  exact nw_ret_body (.tuple #[.slice a n c, .int .i64 70]) (fun _ => by kernel_rfl) ⟨_, rfl, ⟨a, n, c, vs, by rw [show putE k x = 70 from by unfold putE; rw [if_neg (by omega)]], by unfold putL; rw [if_neg (by omega)]; exact (hl.go hB).mono (fun _ h => .inl h)⟩, hB⟩
set_option maxHeartbeats 2000000 in
theorem rput_v0 {K K' : Nat → Prop} {w : World} {a : Option Addr} {n c : Nat} {vs : List (Value × Value)} {l : PList} (hl : PAt K w a n c vs l) {ak : Option Addr} {nk ck : Nat} {k : List Int} (hk : Sk K' w ak nk ck k) (hb : n ≤ 2600000000000) {K2 : Nat → Prop} {av : Option Addr} {nv cv : Nat} {x : List Int} (hx : Sk K2 w av nv cv x) (hlen : ∀ (j : Nat) k x, l[j]? = some (k, x) → k.length ≤ 1000000) (hn : nk ≤ 32) (hv : nv < 1) :
    Calls Tryz.prog 16 #[.slice a n c, .slice ak nk ck, .slice av nv cv] w fun e w' => ∃ u, e = .returned u ∧ (fun u w' => (∃ a n c vs, u = .tuple #[.slice a n c, .int .i64 (putE k x)] ∧ PAt (fun b => K b ∨ w.heap.size ≤ b) w' a n c vs (putL l k x)) ∧ Bl w w') u w' := by
  have hB := Bl.refl w
  have lk := hk.len
  have lx := hx.len
  have ll := hl.ll
  refine cw_enter Tryz.func16 rfl 53 rfl ?_
  show CW _ _ _ _ _ _ _ [(0, .slice a n c), (1, .slice ak nk ck), (2, .slice av nv cv)] _
  refine cw_seq ?_
  refine cw_region ?_
  refine rp 6 (.slice none 0 0) ?_
  refine rp 7 (.int .i64 0) ?_
  refine rw_nil ?_
  refine nw_then ?_
  refine cw_seq ?_
  refine cw_seq ?_
  refine cw_region ?_
  refine rp 11 (.slice ak nk ck) ?_
  refine rp 12 (.int .i64 nk) ?_
  refine rv 13 (.bool false) (fun _ => ol_conv (v := .bool (decide ((nk : Int) > (32 : Int)))) (by kernel_rfl) (congrArg Value.bool (decide_eq_false (by omega)))) ?_
  refine rw_nil ?_
  refine nw_then ?_
  refine cw_cond_f (fun _ => by kernel_rfl) ?_
  refine cw_skip ?_
  refine nw_then ?_
  refine cw_seq ?_
  refine cw_seq ?_
  refine cw_region ?_
  refine rp 15 (.slice av nv cv) ?_
  refine rp 16 (.int .i64 nv) ?_
  refine rv 17 (.bool true) (fun _ => ol_conv (v := .bool (decide ((nv : Int) < (1 : Int)))) (by kernel_rfl) (congrArg Value.bool (decide_eq_true (by omega)))) ?_
  refine rp 18 (.bool true) ?_
  refine rw_off 19 (fun _ => by kernel_rfl) ?_
  refine rw_off 20 (fun _ => by kernel_rfl) ?_
  refine rw_off 21 (fun _ => by kernel_rfl) ?_
  refine rp 22 (.bool true) ?_
  refine rw_nil ?_
  refine nw_then ?_
  refine cw_cond_t (fun _ => by kernel_rfl) ?_
  refine cw_seq ?_
  refine cw_region ?_
  refine rp 23 (.slice a n c) ?_
  refine rp 6 (.slice a n c) ?_
  refine rp 7 (.int .i64 71) ?_
  refine rw_nil ?_
  refine nw_then ?_
  refine cw_ret ?_
  refine nw_ret_then ?_
  exact nw_ret_body (.tuple #[.slice a n c, .int .i64 71]) (fun _ => by kernel_rfl) ⟨_, rfl, ⟨a, n, c, vs, by rw [show putE k x = 71 from by unfold putE; rw [if_pos (by omega), if_neg (by omega)]], by unfold putL; rw [if_neg (by omega)]; exact (hl.go hB).mono (fun _ h => .inl h)⟩, hB⟩
set_option maxHeartbeats 2000000 in
theorem rput_vf {K K' : Nat → Prop} {w : World} {a : Option Addr} {n c : Nat} {vs : List (Value × Value)} {l : PList} (hl : PAt K w a n c vs l) {ak : Option Addr} {nk ck : Nat} {k : List Int} (hk : Sk K' w ak nk ck k) (hb : n ≤ 2600000000000) {K2 : Nat → Prop} {av : Option Addr} {nv cv : Nat} {x : List Int} (hx : Sk K2 w av nv cv x) (hlen : ∀ (j : Nat) k x, l[j]? = some (k, x) → k.length ≤ 1000000) (hn : nk ≤ 32) (hv : 256 < nv) :
    Calls Tryz.prog 16 #[.slice a n c, .slice ak nk ck, .slice av nv cv] w fun e w' => ∃ u, e = .returned u ∧ (fun u w' => (∃ a n c vs, u = .tuple #[.slice a n c, .int .i64 (putE k x)] ∧ PAt (fun b => K b ∨ w.heap.size ≤ b) w' a n c vs (putL l k x)) ∧ Bl w w') u w' := by
  have hB := Bl.refl w
  have lk := hk.len
  have lx := hx.len
  have ll := hl.ll
  refine cw_enter Tryz.func16 rfl 53 rfl ?_
  show CW _ _ _ _ _ _ _ [(0, .slice a n c), (1, .slice ak nk ck), (2, .slice av nv cv)] _
  refine cw_seq ?_
  refine cw_region ?_
  refine rp 6 (.slice none 0 0) ?_
  refine rp 7 (.int .i64 0) ?_
  refine rw_nil ?_
  refine nw_then ?_
  refine cw_seq ?_
  refine cw_seq ?_
  refine cw_region ?_
  refine rp 11 (.slice ak nk ck) ?_
  refine rp 12 (.int .i64 nk) ?_
  refine rv 13 (.bool false) (fun _ => ol_conv (v := .bool (decide ((nk : Int) > (32 : Int)))) (by kernel_rfl) (congrArg Value.bool (decide_eq_false (by omega)))) ?_
  refine rw_nil ?_
  refine nw_then ?_
  refine cw_cond_f (fun _ => by kernel_rfl) ?_
  refine cw_skip ?_
  refine nw_then ?_
  refine cw_seq ?_
  refine cw_seq ?_
  refine cw_region ?_
  refine rp 15 (.slice av nv cv) ?_
  refine rp 16 (.int .i64 nv) ?_
  refine rv 17 (.bool false) (fun _ => ol_conv (v := .bool (decide ((nv : Int) < (1 : Int)))) (by kernel_rfl) (congrArg Value.bool (decide_eq_false (by omega)))) ?_
  refine rp 18 (.bool false) ?_
  refine rp 19 (.slice av nv cv) ?_
  refine rp 20 (.int .i64 nv) ?_
  refine rv 21 (.bool true) (fun _ => ol_conv (v := .bool (decide ((nv : Int) > (256 : Int)))) (by kernel_rfl) (congrArg Value.bool (decide_eq_true (by omega)))) ?_
  refine rp 22 (.bool true) ?_
  refine rw_nil ?_
  refine nw_then ?_
  refine cw_cond_t (fun _ => by kernel_rfl) ?_
  refine cw_seq ?_
  refine cw_region ?_
  refine rp 23 (.slice a n c) ?_
  refine rp 6 (.slice a n c) ?_
  refine rp 7 (.int .i64 71) ?_
  refine rw_nil ?_
  refine nw_then ?_
  refine cw_ret ?_
  refine nw_ret_then ?_
  exact nw_ret_body (.tuple #[.slice a n c, .int .i64 71]) (fun _ => by kernel_rfl) ⟨_, rfl, ⟨a, n, c, vs, by rw [show putE k x = 71 from by unfold putE; rw [if_pos (by omega), if_neg (by omega)]], by unfold putL; rw [if_neg (by omega)]; exact (hl.go hB).mono (fun _ h => .inl h)⟩, hB⟩
set_option maxHeartbeats 2000000 in
theorem rput_is {K K' : Nat → Prop} {w : World} {a : Option Addr} {n c : Nat} {vs : List (Value × Value)} {l : PList} (hl : PAt K w a n c vs l) {ak : Option Addr} {nk ck : Nat} {k : List Int} (hk : Sk K' w ak nk ck k) (hb : n ≤ 2600000000000) {K2 : Nat → Prop} {av : Option Addr} {nv cv : Nat} {x : List Int} (hx : Sk K2 w av nv cv x) (hlen : ∀ (j : Nat) k x, l[j]? = some (k, x) → k.length ≤ 1000000) (hn : nk ≤ 32) (hv1 : 0 < nv) (hv2 : nv ≤ 256) (hat : isAt k l = true) :
    Calls Tryz.prog 16 #[.slice a n c, .slice ak nk ck, .slice av nv cv] w fun e w' => ∃ u, e = .returned u ∧ (fun u w' => (∃ a n c vs, u = .tuple #[.slice a n c, .int .i64 (putE k x)] ∧ PAt (fun b => K b ∨ w.heap.size ≤ b) w' a n c vs (putL l k x)) ∧ Bl w w') u w' := by
  have hB := Bl.refl w
  have lk := hk.len
  have lx := hx.len
  have ll := hl.ll
  refine cw_enter Tryz.func16 rfl 53 rfl ?_
  show CW _ _ _ _ _ _ _ [(0, .slice a n c), (1, .slice ak nk ck), (2, .slice av nv cv)] _
  refine cw_seq ?_
  refine cw_region ?_
  refine rp 6 (.slice none 0 0) ?_
  refine rp 7 (.int .i64 0) ?_
  refine rw_nil ?_
  refine nw_then ?_
  refine cw_seq ?_
  refine cw_seq ?_
  refine cw_region ?_
  refine rp 11 (.slice ak nk ck) ?_
  refine rp 12 (.int .i64 nk) ?_
  refine rv 13 (.bool false) (fun _ => ol_conv (v := .bool (decide ((nk : Int) > (32 : Int)))) (by kernel_rfl) (congrArg Value.bool (decide_eq_false (by omega)))) ?_
  refine rw_nil ?_
  refine nw_then ?_
  refine cw_cond_f (fun _ => by kernel_rfl) ?_
  refine cw_skip ?_
  refine nw_then ?_
  refine cw_seq ?_
  refine cw_seq ?_
  refine cw_region ?_
  refine rp 15 (.slice av nv cv) ?_
  refine rp 16 (.int .i64 nv) ?_
  refine rv 17 (.bool false) (fun _ => ol_conv (v := .bool (decide ((nv : Int) < (1 : Int)))) (by kernel_rfl) (congrArg Value.bool (decide_eq_false (by omega)))) ?_
  refine rp 18 (.bool false) ?_
  refine rp 19 (.slice av nv cv) ?_
  refine rp 20 (.int .i64 nv) ?_
  refine rv 21 (.bool false) (fun _ => ol_conv (v := .bool (decide ((nv : Int) > (256 : Int)))) (by kernel_rfl) (congrArg Value.bool (decide_eq_false (by omega)))) ?_
  refine rp 22 (.bool false) ?_
  refine rw_nil ?_
  refine nw_then ?_
  refine cw_cond_f (fun _ => by kernel_rfl) ?_
  refine cw_skip ?_
  refine nw_then ?_
  refine cw_seq ?_
  refine cw_region ?_
  refine rp 25 (.slice a n c) ?_
  refine rp 26 (.slice ak nk ck) ?_
  refine rw_call 27 37 #[.slice a n c, .slice ak nk ck] (fun _ => by kernel_rfl) (fun _ => by kernel_rfl) (R := fun u w' => u = .tuple #[.int .i64 ((atN k l : Nat) : Int), .bool (isAt k l)] ∧ Bl (w) w') ((at_any (hl.go hB) (hk.go hB) hb hlen)) ?_
  rintro _ u1 ⟨rfl, hb2⟩
  replace hB := hB.go hb2
  rw [hat]
  have hle := atN_le k l
  have hl0 := hl.old
  have hlt : atN k l < n := by by_cases h : atN k l < n; exact h; rw [isAt_end (by omega)] at hat; cases hat
  refine rp 24 (.tuple #[.int .i64 ((atN k l : Nat) : Int), .bool true]) ?_
  refine rp 28 (.int .i64 ((atN k l : Nat) : Int)) ?_
  refine rp 29 (.bool true) ?_
  refine rp 8 (.int .i64 ((atN k l : Nat) : Int)) ?_
  refine rp 9 (.bool true) ?_
  refine rw_nil ?_
  refine nw_then ?_
  refine cw_seq ?_
  refine cw_region ?_
  refine rw_newS 30 #[] 45 0 (fun _ => by kernel_rfl) (fun _ => by kernel_rfl) ?_
  intro w0 g0 hn0
  have hO : OwnL (fun b => K b ∨ w.heap.size ≤ b) w0 w.heap.size (.slice (some ⟨g0, 0, none⟩) 0 0) [] := OwnL.new hn0 hB.size (fun b hb => .inr hb)
  replace hB := hB.go hn0.below
  refine rp 31 (.slice a n c) ?_
  refine rp 32 (.int .i64 ((atN k l : Nat) : Int)) ?_
  obtain ⟨a1, n1, c1, hc1, hP1⟩ := (hl0.go hB).cutTo (atN k l) (by omega)
  refine rv 33 (.slice a1 n1 c1) (fun _ => hc1 _ _ _ _ _ rfl (by kernel_rfl) (by kernel_rfl)) ?_
  have ht1 := hP1.ll
  obtain ⟨VA, wA, hrA, hOA, hbA⟩ := appP hO hP1 (fun b hb => ⟨fun e => by have := (hO.own b e).1; have := hb.2; omega, .inl hb.1⟩) (by rw [List.length_take] at ht1; simp; omega) hB.size
  refine rw_v 34 VA (fun _ => by kernel_rfl) (fun _ => ol_appP hrA _ _ rfl (by kernel_rfl) (by kernel_rfl)) ?_
  replace hB : Bl w wA := Below.trans hB hbA
  replace hO := hOA
  rw [List.nil_append] at hO
  refine rp 10 (VA) ?_
  refine rw_nil ?_
  have hOown := hO.own
  have hwA := hB.size
  refine nw_then ?_
  refine cw_seq ?_
  refine cw_region ?_
  refine rp 35 (VA) ?_
  have hzk := Nat.le_refl (World.heap wA).size
  refine rw_newS 36 #[] 5 0 (fun _ => by kernel_rfl) (fun _ => by kernel_rfl) ?_
  intro wk gk hnk
  have hqk := ownB_new0 hnk (Nat.le_refl _)
  refine rp 37 (.slice ak nk ck) ?_
  obtain ⟨Vk, wkb, hrk, hok, hbk⟩ := app_run hqk (hk.go (hB.go hnk.below)).ag (by simp; omega) (by have := hnk.below.size; omega)
  rw [List.nil_append] at hok
  refine rw_v 38 Vk (fun _ => by kernel_rfl) (fun _ => ol_app hrk _ _ rfl (by kernel_rfl) (by kernel_rfl)) ?_
  have hfk : Below wA.heap.size wA wkb := hnk.below.trans hbk
  obtain ⟨bk, dk, rfl, hsk⟩ := hok.sk (K := fun b => wA.heap.size ≤ b) hk.ag.b (fun b hb => hb)
  replace hB := hB.go hfk
  replace hO := hO.far hfk
  have hzx := Nat.le_refl (World.heap wkb).size
  refine rw_newS 39 #[] 5 0 (fun _ => by kernel_rfl) (fun _ => by kernel_rfl) ?_
  intro wx gx hnx
  have hqx := ownB_new0 hnx (Nat.le_refl _)
  refine rp 40 (.slice av nv cv) ?_
  obtain ⟨Vx, wxb, hrx, hox, hbx⟩ := app_run hqx (hx.go (hB.go hnx.below)).ag (by simp; omega) (by have := hnx.below.size; omega)
  rw [List.nil_append] at hox
  refine rw_v 41 Vx (fun _ => by kernel_rfl) (fun _ => ol_app hrx _ _ rfl (by kernel_rfl) (by kernel_rfl)) ?_
  have hfx : Below wkb.heap.size wkb wxb := hnx.below.trans hbx
  obtain ⟨bx, dx, rfl, hsx⟩ := hox.sk (K := fun b => wkb.heap.size ≤ b) hx.ag.b (fun b hb => hb)
  replace hB := hB.go hfx
  replace hO := hO.far hfx
  replace hsk := hsk.go hfx
  refine rp 42 (.agg #[.slice bk k.length dk, .slice bx x.length dx]) ?_
  have hown := hO.own
  have hsx2 := hfx.size
  have hsk2 := hfk.size
  refine rw_newS 43 #[.slice bk k.length dk, .slice bx x.length dx] 45 1 (fun _ => by kernel_rfl) (fun _ => by kernel_rfl) ?_
  intro wL gL hnL
  have hP2 := PAt.one hnL (hsk.mono (K' := fun b => wA.heap.size ≤ b) (fun b hb => hb)) (hsx.mono (K' := fun b => wA.heap.size ≤ b) (fun b hb => by omega)) (by have := hnL.hg; omega)
  replace hB := hB.go hnL.below
  have hOA := hO
  replace hO := hO.far hnL.below
  have hoA := hOown
  obtain ⟨VC, wC, hrC, hOC, hbC⟩ := appP hO hP2 (fun b hb => ⟨fun e => by have := (hoA b e).2; omega, .inr (by omega)⟩) (by simp; omega) hB.size
  refine rw_v 44 VC (fun _ => by kernel_rfl) (fun _ => ol_appP hrC _ _ rfl (by kernel_rfl) (by kernel_rfl)) ?_
  replace hB : Bl w wC := Below.trans hB hbC
  replace hO := hOC
  refine rp 10 (VC) ?_
  refine rw_nil ?_
  refine nw_then ?_
  refine cw_seq ?_
  refine cw_seq ?_
  refine cw_region ?_
  refine rp 45 (.bool true) ?_
  refine rw_nil ?_
  refine nw_then ?_
  refine cw_cond_t (fun _ => by kernel_rfl) ?_
  refine cw_region ?_
  refine rp 46 (.int .i64 ((atN k l : Nat) : Int)) ?_
  refine rv 47 (.int .i64 ((atN k l + 1 : Nat) : Int)) (fun _ => ol_conv (v := .int .i64 (IntKind.i64.wrap (((atN k l : Nat) : Int) + 1))) (by kernel_rfl) (congrArg (Value.int .i64) (by rw [wrap64 (by omega) (by omega)]; omega))) ?_
  refine rp 8 (.int .i64 ((atN k l + 1 : Nat) : Int)) ?_
  refine rw_nil ?_
  refine nw_then ?_
  refine cw_seq ?_
  refine cw_region ?_
  refine rp 48 (VC) ?_
  refine rp 49 (.slice a n c) ?_
  refine rp 50 (.int .i64 ((atN k l + 1 : Nat) : Int)) ?_
  obtain ⟨a3, n3, c3, hc3, hP3⟩ := (hl0.go hB).cutFrom (atN k l + 1) (by omega)
  refine rv 51 (.slice a3 n3 c3) (fun _ => hc3 _ _ _ _ _ rfl (by kernel_rfl) (by kernel_rfl)) ?_
  have ht3 := hP3.ll
  obtain ⟨VE, wE, hrE, hOE, hbE⟩ := appP hO hP3 (fun b hb => ⟨fun e => by have := (hO.own b e).1; have := hb.2; omega, .inl hb.1⟩) (by rw [List.length_drop] at ht3; simp; omega) hB.size
  refine rw_v 52 VE (fun _ => by kernel_rfl) (fun _ => ol_appP hrE _ _ rfl (by kernel_rfl) (by kernel_rfl)) ?_
  replace hB : Bl w wE := Below.trans hB hbE
  replace hO := hOE
  refine rp 6 (VE) ?_
  refine rp 7 (.int .i64 0) ?_
  refine rw_nil ?_
  refine nw_then ?_
  refine cw_ret ?_
  have hpl : putL l k x = l.take (atN k l) ++ [(k, x)] ++ l.drop (atN k l + 1) := by unfold putL; rw [if_pos (by omega), putR_cut, hat]; rfl
  rw [← hpl] at hO
  obtain ⟨aF, cF, vsF, eF, hF⟩ := hO.pat
  subst eF
  exact nw_ret_body (.tuple #[.slice aF (putL l k x).length cF, .int .i64 0]) (fun _ => by kernel_rfl) ⟨_, rfl, ⟨aF, _, cF, vsF, by rw [show putE k x = 0 from by unfold putE; rw [if_pos (by omega), if_pos (by omega)]], hF⟩, hB⟩
set_option maxHeartbeats 2000000 in
theorem rput_not {K K' : Nat → Prop} {w : World} {a : Option Addr} {n c : Nat} {vs : List (Value × Value)} {l : PList} (hl : PAt K w a n c vs l) {ak : Option Addr} {nk ck : Nat} {k : List Int} (hk : Sk K' w ak nk ck k) (hb : n ≤ 2600000000000) {K2 : Nat → Prop} {av : Option Addr} {nv cv : Nat} {x : List Int} (hx : Sk K2 w av nv cv x) (hlen : ∀ (j : Nat) k x, l[j]? = some (k, x) → k.length ≤ 1000000) (hn : nk ≤ 32) (hv1 : 0 < nv) (hv2 : nv ≤ 256) (hat : isAt k l = false) :
    Calls Tryz.prog 16 #[.slice a n c, .slice ak nk ck, .slice av nv cv] w fun e w' => ∃ u, e = .returned u ∧ (fun u w' => (∃ a n c vs, u = .tuple #[.slice a n c, .int .i64 (putE k x)] ∧ PAt (fun b => K b ∨ w.heap.size ≤ b) w' a n c vs (putL l k x)) ∧ Bl w w') u w' := by
  have hB := Bl.refl w
  have lk := hk.len
  have lx := hx.len
  have ll := hl.ll
  refine cw_enter Tryz.func16 rfl 53 rfl ?_
  show CW _ _ _ _ _ _ _ [(0, .slice a n c), (1, .slice ak nk ck), (2, .slice av nv cv)] _
  refine cw_seq ?_
  refine cw_region ?_
  refine rp 6 (.slice none 0 0) ?_
  refine rp 7 (.int .i64 0) ?_
  refine rw_nil ?_
  refine nw_then ?_
  refine cw_seq ?_
  refine cw_seq ?_
  refine cw_region ?_
  refine rp 11 (.slice ak nk ck) ?_
  refine rp 12 (.int .i64 nk) ?_
  refine rv 13 (.bool false) (fun _ => ol_conv (v := .bool (decide ((nk : Int) > (32 : Int)))) (by kernel_rfl) (congrArg Value.bool (decide_eq_false (by omega)))) ?_
  refine rw_nil ?_
  refine nw_then ?_
  refine cw_cond_f (fun _ => by kernel_rfl) ?_
  refine cw_skip ?_
  refine nw_then ?_
  refine cw_seq ?_
  refine cw_seq ?_
  refine cw_region ?_
  refine rp 15 (.slice av nv cv) ?_
  refine rp 16 (.int .i64 nv) ?_
  refine rv 17 (.bool false) (fun _ => ol_conv (v := .bool (decide ((nv : Int) < (1 : Int)))) (by kernel_rfl) (congrArg Value.bool (decide_eq_false (by omega)))) ?_
  refine rp 18 (.bool false) ?_
  refine rp 19 (.slice av nv cv) ?_
  refine rp 20 (.int .i64 nv) ?_
  refine rv 21 (.bool false) (fun _ => ol_conv (v := .bool (decide ((nv : Int) > (256 : Int)))) (by kernel_rfl) (congrArg Value.bool (decide_eq_false (by omega)))) ?_
  refine rp 22 (.bool false) ?_
  refine rw_nil ?_
  refine nw_then ?_
  refine cw_cond_f (fun _ => by kernel_rfl) ?_
  refine cw_skip ?_
  refine nw_then ?_
  refine cw_seq ?_
  refine cw_region ?_
  refine rp 25 (.slice a n c) ?_
  refine rp 26 (.slice ak nk ck) ?_
  refine rw_call 27 37 #[.slice a n c, .slice ak nk ck] (fun _ => by kernel_rfl) (fun _ => by kernel_rfl) (R := fun u w' => u = .tuple #[.int .i64 ((atN k l : Nat) : Int), .bool (isAt k l)] ∧ Bl (w) w') ((at_any (hl.go hB) (hk.go hB) hb hlen)) ?_
  rintro _ u1 ⟨rfl, hb2⟩
  replace hB := hB.go hb2
  rw [hat]
  have hle := atN_le k l
  have hl0 := hl.old
  refine rp 24 (.tuple #[.int .i64 ((atN k l : Nat) : Int), .bool false]) ?_
  refine rp 28 (.int .i64 ((atN k l : Nat) : Int)) ?_
  refine rp 29 (.bool false) ?_
  refine rp 8 (.int .i64 ((atN k l : Nat) : Int)) ?_
  refine rp 9 (.bool false) ?_
  refine rw_nil ?_
  refine nw_then ?_
  refine cw_seq ?_
  refine cw_region ?_
  refine rw_newS 30 #[] 45 0 (fun _ => by kernel_rfl) (fun _ => by kernel_rfl) ?_
  intro w0 g0 hn0
  have hO : OwnL (fun b => K b ∨ w.heap.size ≤ b) w0 w.heap.size (.slice (some ⟨g0, 0, none⟩) 0 0) [] := OwnL.new hn0 hB.size (fun b hb => .inr hb)
  replace hB := hB.go hn0.below
  refine rp 31 (.slice a n c) ?_
  refine rp 32 (.int .i64 ((atN k l : Nat) : Int)) ?_
  obtain ⟨a1, n1, c1, hc1, hP1⟩ := (hl0.go hB).cutTo (atN k l) (by omega)
  refine rv 33 (.slice a1 n1 c1) (fun _ => hc1 _ _ _ _ _ rfl (by kernel_rfl) (by kernel_rfl)) ?_
  have ht1 := hP1.ll
  obtain ⟨VA, wA, hrA, hOA, hbA⟩ := appP hO hP1 (fun b hb => ⟨fun e => by have := (hO.own b e).1; have := hb.2; omega, .inl hb.1⟩) (by rw [List.length_take] at ht1; simp; omega) hB.size
  refine rw_v 34 VA (fun _ => by kernel_rfl) (fun _ => ol_appP hrA _ _ rfl (by kernel_rfl) (by kernel_rfl)) ?_
  replace hB : Bl w wA := Below.trans hB hbA
  replace hO := hOA
  rw [List.nil_append] at hO
  refine rp 10 (VA) ?_
  refine rw_nil ?_
  have hOown := hO.own
  have hwA := hB.size
  refine nw_then ?_
  refine cw_seq ?_
  refine cw_region ?_
  refine rp 35 (VA) ?_
  have hzk := Nat.le_refl (World.heap wA).size
  refine rw_newS 36 #[] 5 0 (fun _ => by kernel_rfl) (fun _ => by kernel_rfl) ?_
  intro wk gk hnk
  have hqk := ownB_new0 hnk (Nat.le_refl _)
  refine rp 37 (.slice ak nk ck) ?_
  obtain ⟨Vk, wkb, hrk, hok, hbk⟩ := app_run hqk (hk.go (hB.go hnk.below)).ag (by simp; omega) (by have := hnk.below.size; omega)
  rw [List.nil_append] at hok
  refine rw_v 38 Vk (fun _ => by kernel_rfl) (fun _ => ol_app hrk _ _ rfl (by kernel_rfl) (by kernel_rfl)) ?_
  have hfk : Below wA.heap.size wA wkb := hnk.below.trans hbk
  obtain ⟨bk, dk, rfl, hsk⟩ := hok.sk (K := fun b => wA.heap.size ≤ b) hk.ag.b (fun b hb => hb)
  replace hB := hB.go hfk
  replace hO := hO.far hfk
  have hzx := Nat.le_refl (World.heap wkb).size
  refine rw_newS 39 #[] 5 0 (fun _ => by kernel_rfl) (fun _ => by kernel_rfl) ?_
  intro wx gx hnx
  have hqx := ownB_new0 hnx (Nat.le_refl _)
  refine rp 40 (.slice av nv cv) ?_
  obtain ⟨Vx, wxb, hrx, hox, hbx⟩ := app_run hqx (hx.go (hB.go hnx.below)).ag (by simp; omega) (by have := hnx.below.size; omega)
  rw [List.nil_append] at hox
  refine rw_v 41 Vx (fun _ => by kernel_rfl) (fun _ => ol_app hrx _ _ rfl (by kernel_rfl) (by kernel_rfl)) ?_
  have hfx : Below wkb.heap.size wkb wxb := hnx.below.trans hbx
  obtain ⟨bx, dx, rfl, hsx⟩ := hox.sk (K := fun b => wkb.heap.size ≤ b) hx.ag.b (fun b hb => hb)
  replace hB := hB.go hfx
  replace hO := hO.far hfx
  replace hsk := hsk.go hfx
  refine rp 42 (.agg #[.slice bk k.length dk, .slice bx x.length dx]) ?_
  have hown := hO.own
  have hsx2 := hfx.size
  have hsk2 := hfk.size
  refine rw_newS 43 #[.slice bk k.length dk, .slice bx x.length dx] 45 1 (fun _ => by kernel_rfl) (fun _ => by kernel_rfl) ?_
  intro wL gL hnL
  have hP2 := PAt.one hnL (hsk.mono (K' := fun b => wA.heap.size ≤ b) (fun b hb => hb)) (hsx.mono (K' := fun b => wA.heap.size ≤ b) (fun b hb => by omega)) (by have := hnL.hg; omega)
  replace hB := hB.go hnL.below
  have hOA := hO
  replace hO := hO.far hnL.below
  have hoA := hOown
  obtain ⟨VC, wC, hrC, hOC, hbC⟩ := appP hO hP2 (fun b hb => ⟨fun e => by have := (hoA b e).2; omega, .inr (by omega)⟩) (by simp; omega) hB.size
  refine rw_v 44 VC (fun _ => by kernel_rfl) (fun _ => ol_appP hrC _ _ rfl (by kernel_rfl) (by kernel_rfl)) ?_
  replace hB : Bl w wC := Below.trans hB hbC
  replace hO := hOC
  refine rp 10 (VC) ?_
  refine rw_nil ?_
  refine nw_then ?_
  refine cw_seq ?_
  refine cw_seq ?_
  refine cw_region ?_
  refine rp 45 (.bool false) ?_
  refine rw_nil ?_
  refine nw_then ?_
  refine cw_cond_f (fun _ => by kernel_rfl) ?_
  refine cw_skip ?_
  refine nw_then ?_
  refine cw_seq ?_
  refine cw_region ?_
  refine rp 48 (VC) ?_
  refine rp 49 (.slice a n c) ?_
  refine rp 50 (.int .i64 ((atN k l : Nat) : Int)) ?_
  obtain ⟨a3, n3, c3, hc3, hP3⟩ := (hl0.go hB).cutFrom (atN k l) (by omega)
  refine rv 51 (.slice a3 n3 c3) (fun _ => hc3 _ _ _ _ _ rfl (by kernel_rfl) (by kernel_rfl)) ?_
  have ht3 := hP3.ll
  obtain ⟨VE, wE, hrE, hOE, hbE⟩ := appP hO hP3 (fun b hb => ⟨fun e => by have := (hO.own b e).1; have := hb.2; omega, .inl hb.1⟩) (by rw [List.length_drop] at ht3; simp; omega) hB.size
  refine rw_v 52 VE (fun _ => by kernel_rfl) (fun _ => ol_appP hrE _ _ rfl (by kernel_rfl) (by kernel_rfl)) ?_
  replace hB : Bl w wE := Below.trans hB hbE
  replace hO := hOE
  refine rp 6 (VE) ?_
  refine rp 7 (.int .i64 0) ?_
  refine rw_nil ?_
  refine nw_then ?_
  refine cw_ret ?_
  have hpl : putL l k x = l.take (atN k l) ++ [(k, x)] ++ l.drop (atN k l) := by unfold putL; rw [if_pos (by omega), putR_cut, hat]; rfl
  rw [← hpl] at hO
  obtain ⟨aF, cF, vsF, eF, hF⟩ := hO.pat
  subst eF
  exact nw_ret_body (.tuple #[.slice aF (putL l k x).length cF, .int .i64 0]) (fun _ => by kernel_rfl) ⟨_, rfl, ⟨aF, _, cF, vsF, by rw [show putE k x = 0 from by unfold putE; rw [if_pos (by omega), if_pos (by omega)]], hF⟩, hB⟩
theorem rput_any {K K' : Nat → Prop} {w : World} {a : Option Addr} {n c : Nat} {vs : List (Value × Value)} {l : PList} (hl : PAt K w a n c vs l) {ak : Option Addr} {nk ck : Nat} {k : List Int} (hk : Sk K' w ak nk ck k) (hb : n ≤ 2600000000000) {K2 : Nat → Prop} {av : Option Addr} {nv cv : Nat} {x : List Int} (hx : Sk K2 w av nv cv x) (hlen : ∀ (j : Nat) k x, l[j]? = some (k, x) → k.length ≤ 1000000) :
    Calls Tryz.prog 16 #[.slice a n c, .slice ak nk ck, .slice av nv cv] w fun e w' => ∃ u, e = .returned u ∧ (fun u w' => (∃ a n c vs, u = .tuple #[.slice a n c, .int .i64 (putE k x)] ∧ PAt (fun b => K b ∨ w.heap.size ≤ b) w' a n c vs (putL l k x)) ∧ Bl w w') u w' := by
  by_cases hn : nk ≤ 32
  · by_cases h1 : nv < 1
    · exact rput_v0 hl hk hb hx hlen hn h1
    · by_cases h2 : nv ≤ 256
      · cases hat : isAt k l with
        | true => exact rput_is hl hk hb hx hlen hn (by omega) h2 hat
        | false => exact rput_not hl hk hb hx hlen hn (by omega) h2 hat
      · exact rput_vf hl hk hb hx hlen hn (by omega)
  · exact rput_long hl hk hb hx hlen (by omega)
end Go.Proofs.YtalhnnjpjaeakaaGreat
/- The statement TrieOneRoot: the same keys and values, laid in from the other end, and others that come and go, give the same root and the same nodes. -/
namespace Go.Proofs.YtalhnnjpjaeakaaGreat
open Go.RowKit
open Tr
set_option linter.unusedVariables false
set_option maxRecDepth 100000
def goB : List Int := [116, 111, 32, 103, 111]
/-- '[]byte("to go")' -/
theorem const_g {w1 w2 : World} {g : Nat} (hn : New w1 w2 g #[.int .u8 116, .int .u8 111, .int .u8 32, .int .u8 103, .int .u8 111] 5) {K : Nat → Prop} (hK : ∀ b, w1.heap.size ≤ b → K b) : ∃ w3, (∀ (ρ : Operand → Value) (o : Oper) (y : Operand), o.op = .convert 27 27 y → ρ y = .slice (some ⟨g, 0, none⟩) 5 5 → (execOp ρ o).run Tryz.prog w2 = .ok (.value (.slice (some ⟨g, 0, none⟩) 5 5)) w3) ∧ Below w1.heap.size w1 w3 ∧ Sk K w3 (some ⟨g, 0, none⟩) 5 5 goB := by
  obtain ⟨rfl, rfl⟩ := hn
  refine ⟨w1.alloc (.cells #[.int .u8 116, .int .u8 111, .int .u8 32, .int .u8 103, .int .u8 111] 5 (5, 6)), ?_, (Below.refl _ _).alloc (Nat.le_refl _) _, ?_⟩
  · intro ρ o y ho hy
    have := Lib.run_convert_bytes_const (P := Tryz.prog) w1 27 5 #[.int .u8 116, .int .u8 111, .int .u8 32, .int .u8 103, .int .u8 111] 5 5 Tryz.underlying27 Tryz.underlying5
    unfold execOp
    simp only [ho, hy, Sem.run_bind, this, Result.andThen_ok, Sem.run_pure]
    rfl
  · refine ⟨⟨.inr ⟨w1.heap.size, 0, rfl, rfl, by omega, by omega, by unfold maxLen; omega, fun j hj => ?_⟩, (fun e => by cases e), rfl, fun y hy => by simp [goB] at hy; omega⟩, fun y hy _ => ?_⟩
    · have hj5 : j < 5 := hj
      rw [cell_of_row _ _ _ _ _ _ (heap_alloc_new w1 _)]
      match j, hj5 with
      | 0, _ | 1, _ | 2, _ | 3, _ | 4, _ => rfl
      | j + 5, h => omega
    · cases hy
      exact hK _ (Nat.le_refl _)
theorem Tri.touch {K K' : Nat → Prop} {w w' : World} {g g' : Nat} {t t' : Tr} (h : Tri K w g t) (ht : Touch g' w w') (hT : Tri K' w g' t') (hne : g ≠ g') : Tri K w' g t := by
  obtain ⟨⟨v, h1, h2⟩, h3⟩ := h
  refine ⟨⟨v, h1.touch ht hne, ?_⟩, h3⟩
  have hs : ∀ {a : Option Addr} {n c : Nat} {bs : List Int}, Sk K w a n c bs → Sk K w' a n c bs := fun h => h.touch ht hT
  clear h1 h3
  revert v
  induction t with
  | no => intro v h2; exact h2
  | leaf p x => rintro v ⟨a, n, c, a', n', c', h1, h2, h3, h4⟩; exact ⟨a, n, c, a', n', c', h1, hs h2, hs h3, h4⟩
  | ext p t ih => rintro v ⟨a, n, c, u, h1, h2, h3⟩; exact ⟨a, n, c, u, h1, hs h2, ih u h3⟩
  | br k x ih => rintro v ⟨vs, a, n, c, h1, h2, h3, h4⟩; exact ⟨vs, a, n, c, h1, fun i hi => ih i _ (h2 i hi), hs h3, h4⟩
/-- So far: the list's keys from i on have their values, and all that is there is the list's or another's. -/
structure Lay (u : Tr) (l : PList) (i : Nat) (A : List Int → Prop) : Prop where
  ok : u = no ∨ Tr.Ok 64 u
  s : Sup u (fun k => A k ∨ ∃ x, (k, x) ∈ l)
  v : ∀ (j : Nat) k x, i ≤ j → l[j]? = some (k, x) → Tr.get u (Ni.nib k) = x
theorem srt_inj {l : PList} (h : SrtP l) {i j : Nat} {k x y : List Int} (hi : l[i]? = some (k, x)) (hj : l[j]? = some (k, y)) : i = j := by
  obtain ⟨hi1, hi2⟩ := List.getElem?_eq_some_iff.1 hi
  obtain ⟨hj1, hj2⟩ := List.getElem?_eq_some_iff.1 hj
  have hp := List.pairwise_iff_getElem.1 h
  rcases Nat.lt_trichotomy i j with q | q | q
  · have := hp i j hi1 hj1 q
    rw [hi2, hj2, less_irr] at this; cases this
  · exact q
  · have := hp j i hj1 hi1 q
    rw [hi2, hj2, less_irr] at this; cases this
theorem Lay.put {t u : Tr} {l : PList} {i : Nat} {A : List Int → Prop} (hR : Rel t l) (h : Lay u l (i + 1) A) {k x : List Int} (he : l[i]? = some (k, x)) : Lay (putT u k x) l i A := by
  have hm : (k, x) ∈ l := List.mem_of_getElem? he
  obtain ⟨k1, k2, k3, k4⟩ := (hR.m k x).1 hm
  have hc : k.length ≤ 32 ∧ 0 < x.length ∧ x.length ≤ 256 := ⟨k2, List.length_pos_iff.2 k3, hR.v k x hm⟩
  refine ⟨putT_ok h.ok k1, (h.s.put h.ok k1).mono (fun y _ _ hy => ?_), fun j k' x' hj he' => ?_⟩
  · rcases hy with rfl | hy
    · exact .inr ⟨x, hm⟩
    · exact hy
  · obtain ⟨k1', _, _, _⟩ := (hR.m k' x').1 (List.mem_of_getElem? he')
    rw [putT_get h.ok k1 (byk_nb k1')]
    by_cases e : k' = k
    · subst e
      obtain rfl := srt_inj hR.s he he'
      rw [he] at he'
      cases he'
      rw [if_pos ⟨hc, rfl⟩]
    · rw [if_neg (fun z => e (nib_inj z.2))]
      refine h.v j k' x' ?_ he'
      rcases Nat.lt_or_ge i j with q | q
      · exact q
      · have : i = j := by omega
        subst this
        rw [he] at he'
        cases he'
        exact absurd rfl e
theorem Lay.del {t u : Tr} {l : PList} {A : List Int → Prop} (hR : Rel t l) (h : Lay u l 0 A) {k : List Int} (hk : Byk k) (hn : k.length ≤ 32 → isAt k l = false) : Lay (delT u k) l 0 (fun y => y ≠ k ∧ A y) := by
  have hno : ∀ x, (k, x) ∈ l → False := fun x hx => by
    have := (isAt_iff k l hR.s).2 ⟨x, hx⟩
    rw [hn ((hR.m k x).1 hx).2.1] at this; cases this
  refine ⟨delT_ok h.ok hk, (h.s.del h.ok hk).mono (fun y _ _ hy => ?_), fun j k' x' hj he' => ?_⟩
  · rcases hy.2 with q | q
    · exact .inl ⟨hy.1, q⟩
    · exact .inr q
  · obtain ⟨k1', _, _, _⟩ := (hR.m k' x').1 (List.mem_of_getElem? he')
    rw [delT_get h.ok hk (byk_nb k1'), if_neg (fun z => hno x' (by rw [← nib_inj z.2]; exact List.mem_of_getElem? he'))]
    exact h.v j k' x' hj he'
theorem Lay.mono {u : Tr} {l : PList} {i : Nat} {A A' : List Int → Prop} (h : Lay u l i A) (hA : ∀ k, Byk k → k.length ≤ 32 → A k → A' k ∨ ∃ x, (k, x) ∈ l) : Lay u l i A' := ⟨h.ok, h.s.mono (fun k k1 k2 hk => by
  rcases hk with q | q
  · exact hA k k1 k2 q
  · exact .inr q), h.v⟩
theorem Lay.one {t u : Tr} {l : PList} {A : List Int → Prop} (hR : Rel t l) (h : Lay u l 0 A) (hA : ∀ k, ¬ A k) : u = t := by
  refine hR.one h.ok (h.s.mono (fun k _ _ hk => ?_)) (fun k x hx => ?_)
  · rcases hk with q | q
    · exact absurd q (hA k)
    · exact q
  · obtain ⟨j, hj⟩ := List.mem_iff_getElem?.1 hx
    exact h.v j k x (Nat.zero_le _) hj
theorem Rel.klen {t : Tr} {l : PList} (h : Rel t l) (j : Nat) (k x : List Int) (he : l[j]? = some (k, x)) : k.length ≤ 1000000 := by
  have := ((h.m k x).1 (List.mem_of_getElem? he)).2.1
  omega
set_option maxHeartbeats 8000000 in
theorem one_any (a : Option Addr) (n c : Nat) (xs : List Opx) (ao : Option Addr) (no_ co : Nat) (Mo : List (List Int)) (w : World) (hO : OAt w a n xs) (hn : n ≤ 2520000000000) (hMo : Bt An w ao no_ Mo) (hno : no_ ≤ 5900000000000) :
    Calls Tryz.prog 5 #[.slice a n c, .slice ao no_ co] w fun e w' => e = .returned (.bool true) ∧ Below w.heap.size w w' := by
  have hB := Bl.refl w
  refine cw_enter Tryz.func5 rfl 132 rfl ?_
  show CW _ _ _ _ _ _ _ [(0, .slice a n c), (1, .slice ao no_ co)] _
  refine cw_seq ?_
  refine cw_region ?_
  refine rp 4 (.bool false) ?_
  refine rw_nil ?_
  refine nw_then ?_
  refine cw_seq ?_
  refine cw_region ?_
  refine rw_call 20 8 #[] (fun _ => by kernel_rfl) (fun _ => by kernel_rfl) (R := fun u w' => (∃ g, u = .tuple #[.pointer (some ⟨g, 0, none⟩), .bool true] ∧ (w).heap.size ≤ g ∧ Tri An w' g no) ∧ Bl (w) w') (begun_any (K := An) (fun _ _ => trivial)) ?_
  rintro _ u1 ⟨⟨g, rfl, hgw, hT⟩, hb2⟩
  replace hB := hB.go hb2
  refine rp 19 (.tuple #[.pointer (some ⟨g, 0, none⟩), .bool true]) ?_
  refine rp 21 (.pointer (some ⟨g, 0, none⟩)) ?_
  refine rp 22 (.bool true) ?_
  refine rp 5 (.pointer (some ⟨g, 0, none⟩)) ?_
  refine rp 6 (.bool true) ?_
  refine rw_nil ?_
  refine nw_then ?_
  refine cw_seq ?_
  refine cw_region ?_
  refine rw_call 23 15 #[] (fun _ => by kernel_rfl) (fun _ => by kernel_rfl) (R := fun u w' => (∃ g, u = .pointer (some ⟨g, 0, none⟩) ∧ (u1).heap.size ≤ g ∧ Tri An w' g no) ∧ Bl (u1) w') (new_any (K := An)) ?_
  rintro _ u3 ⟨⟨gU, rfl, hgU, hU⟩, hb4⟩
  have hgl0 := hT.lt
  have hgu : w.heap.size ≤ gU := Nat.le_trans hB.size hgU
  have hne : gU ≠ g := by omega
  replace hB := hB.go hb4
  replace hT := hT.go hb4
  refine rp 7 (.pointer (some ⟨gU, 0, none⟩)) ?_
  refine rw_nil ?_
  refine nw_then ?_
  refine cw_seq ?_
  refine cw_seq ?_
  refine cw_region ?_
  refine rp 24 (.bool true) ?_
  refine rp 25 (.bool false) ?_
  refine rp 26 (.bool false) ?_
  refine rp 27 (.pointer (some ⟨g, 0, none⟩)) ?_
  refine rp 28 (.bool false) ?_
  refine rp 29 (.bool false) ?_
  refine rp 30 (.bool false) ?_
  refine rp 31 (.pointer (some ⟨gU, 0, none⟩)) ?_
  refine rp 32 (.bool false) ?_
  refine rp 33 (.bool false) ?_
  refine rw_nil ?_
  refine nw_then ?_
  refine cw_cond_f (fun _ => by kernel_rfl) ?_
  refine cw_skip ?_
  refine nw_then ?_
  refine cw_seq ?_
  refine cw_region ?_
  refine rp 8 (.slice none 0 0) ?_
  refine rw_nil ?_
  refine nw_then ?_
  refine cw_seq ?_
  refine cw_seq ?_
  refine cw_region ?_
  refine rp 34 (.slice a n c) ?_
  refine rp 35 (.int .i64 n) ?_
  refine rp 36 (.int .i64 0) ?_
  refine rw_nil ?_
  refine nw_then ?_
  refine cw_block ?_
  refine cw_loop (X := Nat × Tr × PList × Option Addr × Nat × Nat) (fun z => [(36, .int .i64 ((z.1 : Nat) : Int)), (34, .slice a n c), (35, .int .i64 n), (1, .slice ao no_ co), (4, .bool false), (5, .pointer (some ⟨g, 0, none⟩)), (7, .pointer (some ⟨gU, 0, none⟩)), (8, .slice z.2.2.2.1 z.2.2.2.2.1 z.2.2.2.2.2)]) (fun z v => Bl w v ∧ Tri An v g z.2.1 ∧ Tri An v gU no ∧ (∃ vs, PAt An v z.2.2.2.1 z.2.2.2.2.1 z.2.2.2.2.2 vs z.2.2.1) ∧ Rel z.2.1 z.2.2.1 ∧ z.1 ≤ n ∧ Tr.sz z.2.1 ≤ 3 * z.1 ∧ z.2.2.1.length ≤ z.1) (fun z => n - z.1) (0, no, [], none, 0, 0) (by exact ⟨fun _ => by kernel_rfl, ⟨fun _ => by kernel_rfl, ⟨fun _ => by kernel_rfl, ⟨fun _ => by kernel_rfl, ⟨fun _ => by kernel_rfl, ⟨fun _ => by kernel_rfl, ⟨fun _ => by kernel_rfl, ⟨fun _ => by kernel_rfl, trivial⟩⟩⟩⟩⟩⟩⟩⟩) ⟨hB, hT, hU, ⟨_, PAt.empty _ _⟩, Rel.nil, Nat.zero_le _, by simp [Tr.sz], Nat.le_refl _⟩ ?_
  clear hB hT hU
  rintro ⟨j, t, l, aL, nL, cL⟩ v ⟨hB, hT, hU, ⟨vsL, hP⟩, hRel, hj, hz, hll⟩
  simp only at hB hT hU hP hRel hj hz hll
  show CW _ _ _ _ _ _ _ [(36, .int .i64 ((j : Nat) : Int)), (34, .slice a n c), (35, .int .i64 n), (1, .slice ao no_ co), (4, .bool false), (5, .pointer (some ⟨g, 0, none⟩)), (7, .pointer (some ⟨gU, 0, none⟩)), (8, .slice aL nL cL)] _
  by_cases hlt : j < n
  · skip
    have hjx : j < xs.length := by rw [hO.len]; exact hlt
    obtain ⟨y, hy⟩ : ∃ y, xs[j]? = some y := ⟨_, List.getElem?_eq_getElem hjx⟩
    have hym : y ∈ xs := List.mem_of_getElem? hy
    obtain ⟨gS, oS, ea, hrow⟩ := hO.row j y hy
    subst ea
    have hk1 := (hO.k y hym).an
    have hk2 := (hO.x y hym).an
    refine cw_seq ?_
    refine cw_region ?_
    refine rv 37 (.bool true) (fun _ => ol_conv (v := .bool (decide (((j : Nat) : Int) < (n : Int)))) (by kernel_rfl) (congrArg Value.bool (decide_eq_true (by omega)))) ?_
    refine rw_nil ?_
    refine nw_then ?_
    refine cw_seq ?_
    refine cw_cond_t (fun _ => by kernel_rfl) ?_
    refine cw_skip ?_
    refine nw_then ?_
    refine cw_seq ?_
    refine cw_block ?_
    refine cw_seq ?_
    refine cw_region ?_
    refine rv 38 (.pointer (some ⟨gS, oS + j * 3, none⟩)) (fun _ => ol_index 22 _ _ gS oS j n c 3 29 rfl (by kernel_rfl) (by kernel_rfl) hlt Tryz.underlying22 (by kernel_rfl)) ?_
    refine rv 39 (.agg #[.int .i64 y.z, .slice y.ka y.kn y.kc, .slice y.va y.vn y.vc]) (fun _ => ol_mid 29 _ gS (oS + j * 3) y.cells.toList _ rfl (by kernel_rfl) (rng_go hrow hB) Tryz.underlying29 rfl (by kernel_rfl)) ?_
    refine rw_new 10 #[.int .i64 0, .slice none 0 0, .slice none 0 0] 29 (fun _ => by kernel_rfl) (fun _ => by kernel_rfl) ?_
    intro wA gA hnA
    refine rw_put gA #[.int .i64 y.z, .slice y.ka y.kn y.kc, .slice y.va y.vn y.vc] (fun _ => by kernel_rfl) (fun _ => ol_store 29 _ _ _ _ _ _ rfl (by kernel_rfl) (by kernel_rfl) hnA.row (by kernel_rfl) rfl (by kernel_rfl)) ?_
    intro wC hpC
    have hnC := hnA.put hpC
    have hgA := hnC.hg
    have htl := hT.lt
    replace hB := hB.go hnC.below
    replace hT := hT.go hnC.below
    replace hU := hU.go hnC.below
    replace hP := hP.go hnC.below
    have hrA : Rw gA wC #[.int .i64 y.z, .slice y.ka y.kn y.kc, .slice y.va y.vn y.vc] 29 := hnC.row
    refine rw_nil ?_
    refine nw_then ?_
    refine cw_seq ?_
    refine cw_region ?_
    refine rp 40 (.pointer (some ⟨g, 0, none⟩)) ?_
    refine rp 41 (.pointer (some ⟨gA, 1, none⟩)) ?_
    refine rv 42 (.slice y.ka y.kn y.kc) (fun _ => ol_cell 27 _ ⟨gA, 1, none⟩ _ _ rfl (by kernel_rfl) (by rw [cell_of_row _ _ _ _ _ _ hrA]; rfl) Tryz.underlying27 rfl) ?_
    refine rp 43 (.pointer (some ⟨gA, 2, none⟩)) ?_
    refine rv 44 (.slice y.va y.vn y.vc) (fun _ => ol_cell 27 _ ⟨gA, 2, none⟩ _ _ rfl (by kernel_rfl) (by rw [cell_of_row _ _ _ _ _ _ hrA]; rfl) Tryz.underlying27 rfl) ?_
    refine rw_call 45 11 #[.pointer (some ⟨g, 0, none⟩), .slice y.ka y.kn y.kc, .slice y.va y.vn y.vc] (fun _ => by kernel_rfl) (fun _ => by kernel_rfl) (R := fun u w' => u = .int .i64 (putE y.k y.x) ∧ Tri An w' g (putT t y.k y.x) ∧ Touch g (wC) w') ((tput_any hT (hk1.go hB) (hk2.go hB) (fun _ _ => trivial))) ?_
    rintro _ u5 ⟨rfl, hTn, hto⟩
    have hgl := hT.lt
    replace hU := hU.touch hto hT (by omega)
    replace hP := hP.touch hto hT
    replace hrA := hrA.touch hto (by have := hT.lt; have := hU.lt; omega)
    replace hB : Bl w u5 := hto.below hB hgw hB.size
    replace hT := hTn
    refine rw_nil ?_
    refine nw_then ?_
    refine cw_region ?_
    refine rp 47 (.slice aL nL cL) ?_
    refine rp 48 (.pointer (some ⟨gA, 1, none⟩)) ?_
    refine rv 49 (.slice y.ka y.kn y.kc) (fun _ => ol_cell 27 _ ⟨gA, 1, none⟩ _ _ rfl (by kernel_rfl) (by rw [cell_of_row _ _ _ _ _ _ hrA]; rfl) Tryz.underlying27 rfl) ?_
    refine rp 50 (.pointer (some ⟨gA, 2, none⟩)) ?_
    refine rv 51 (.slice y.va y.vn y.vc) (fun _ => ol_cell 27 _ ⟨gA, 2, none⟩ _ _ rfl (by kernel_rfl) (by rw [cell_of_row _ _ _ _ _ _ hrA]; rfl) Tryz.underlying27 rfl) ?_
    refine rw_call 52 16 #[.slice aL nL cL, .slice y.ka y.kn y.kc, .slice y.va y.vn y.vc] (fun _ => by kernel_rfl) (fun _ => by kernel_rfl) (R := fun u w' => (∃ a n c vs, u = .tuple #[.slice a n c, .int .i64 (putE y.k y.x)] ∧ PAt An w' a n c vs (putL l y.k y.x)) ∧ Bl (u5) w') (((rput_any hP (hk1.go hB) (by have := hP.ll; omega) (hk2.go hB) hRel.klen).mono (fun e w' ⟨u, e1, ⟨a, n, c, vs, e2, e3⟩, e4⟩ => ⟨u, e1, ⟨a, n, c, vs, e2, e3.mono (fun _ _ => trivial)⟩, e4⟩))) ?_
    rintro _ u6 ⟨⟨aL2, nL2, cL2, vsL2, rfl, hPn⟩, hb7⟩
    clear hP
    replace hB := hB.go hb7
    replace hT := hT.go hb7
    replace hU := hU.go hb7
    replace hrA := hrA.go hb7
    have hP := hPn
    clear hPn
    refine rp 46 (.tuple #[.slice aL2 nL2 cL2, .int .i64 (putE y.k y.x)]) ?_
    refine rp 53 (.slice aL2 nL2 cL2) ?_
    refine rp 54 (.int .i64 (putE y.k y.x)) ?_
    refine rp 8 (.slice aL2 nL2 cL2) ?_
    refine rw_nil ?_
    refine nw_block ?_
    refine nw_then ?_
    refine cw_region ?_
    refine rv 55 (.int .i64 (((j : Nat) : Int) + 1)) (fun _ => ol_conv (v := .int .i64 (IntKind.i64.wrap (((j : Nat) : Int) + 1))) (by kernel_rfl) (congrArg (Value.int .i64) (wrap64 (by omega) (by omega)))) ?_
    refine rp 36 (.int .i64 (((j : Nat) : Int) + 1)) ?_
    refine rw_nil ?_
    have hz2 := sz_putT t y.k y.x
    have hl2 := len_putL l y.k y.x
    exact nw_round (E := fun z => [(36, .int .i64 ((z.1 : Nat) : Int)), (34, .slice (some ⟨gS, oS, none⟩) n c), (35, .int .i64 n), (1, .slice ao no_ co), (4, .bool false), (5, .pointer (some ⟨g, 0, none⟩)), (7, .pointer (some ⟨gU, 0, none⟩)), (8, .slice z.2.2.2.1 z.2.2.2.2.1 z.2.2.2.2.2)]) (R := fun z v => Bl w v ∧ Tri An v g z.2.1 ∧ Tri An v gU no ∧ (∃ vs, PAt An v z.2.2.2.1 z.2.2.2.2.1 z.2.2.2.2.2 vs z.2.2.1) ∧ Rel z.2.1 z.2.2.1 ∧ z.1 ≤ n ∧ Tr.sz z.2.1 ≤ 3 * z.1 ∧ z.2.2.1.length ≤ z.1) (μ := fun z => n - z.1) (x := (j, t, l, aL, nL, cL)) (j + 1, putT t y.k y.x, putL l y.k y.x, aL2, nL2, cL2) (by exact ⟨fun _ => by kernel_rfl, ⟨fun _ => by kernel_rfl, ⟨fun _ => by kernel_rfl, ⟨fun _ => by kernel_rfl, ⟨fun _ => by kernel_rfl, ⟨fun _ => by kernel_rfl, ⟨fun _ => by kernel_rfl, ⟨fun _ => by kernel_rfl, trivial⟩⟩⟩⟩⟩⟩⟩⟩) ⟨hB, hT, hU, ⟨_, hP⟩, hRel.put (k := y.k) (x := y.x) hk1.ag.b, by omega, by show Tr.sz (putT t y.k y.x) ≤ 3 * (j + 1); omega, by show (putL l y.k y.x).length ≤ j + 1; omega⟩ (by show n - (j + 1) < n - j; omega)
  obtain rfl : j = n := by omega
  have hM : (nmd t).length + 1 ≤ 7600000000000 := by have := nmd_le t; omega
  have hdl := rootP_len t
  obtain ⟨ds, hds⟩ : ∃ ds, rootP t = ds := ⟨_, rfl⟩
  rw [hds] at hdl
  have hll2 := hP.ll
  show CW _ _ _ _ _ _ _ [(36, .int .i64 ((j : Nat) : Int)), (34, .slice a j c), (35, .int .i64 ((j : Nat) : Int)), (1, .slice ao no_ co), (4, .bool false), (5, .pointer (some ⟨g, 0, none⟩)), (7, .pointer (some ⟨gU, 0, none⟩)), (8, .slice aL nL cL)] _
  refine cw_seq ?_
  refine cw_region ?_
  refine rv 37 (.bool false) (fun _ => ol_conv (v := .bool (decide (((j : Nat) : Int) < ((j : Nat) : Int)))) (by kernel_rfl) (congrArg Value.bool (decide_eq_false (by omega)))) ?_
  refine rw_nil ?_
  refine nw_then ?_
  refine cw_seq ?_
  refine cw_cond_f (fun _ => by kernel_rfl) ?_
  refine cw_exit ?_
  refine nw_exit_then ?_
  refine nw_exit_then ?_
  refine nw_exit_here ?_
  refine nw_then ?_
  refine cw_seq ?_
  refine cw_seq ?_
  refine cw_region ?_
  refine rp 56 (.slice ao no_ co) ?_
  refine rp 57 (.int .i64 no_) ?_
  refine rp 58 (.int .i64 0) ?_
  refine rw_nil ?_
  refine nw_then ?_
  refine cw_block ?_
  refine cw_loop (X := Nat × Tr) (fun z => [(58, .int .i64 ((z.1 : Nat) : Int)), (56, .slice ao no_ co), (57, .int .i64 no_), (1, .slice ao no_ co), (4, .bool false), (5, .pointer (some ⟨g, 0, none⟩)), (7, .pointer (some ⟨gU, 0, none⟩)), (8, .slice aL nL cL)]) (fun z v => Bl w v ∧ Tri An v g t ∧ Tri An v gU z.2 ∧ PAt An v aL nL cL vsL l ∧ z.1 ≤ no_ ∧ (z.2 = no ∨ Tr.Ok 64 z.2) ∧ Sup z.2 (fun k => k ∈ Mo)) (fun z => no_ - z.1) (0, no) (by exact ⟨fun _ => by kernel_rfl, ⟨fun _ => by kernel_rfl, ⟨fun _ => by kernel_rfl, ⟨fun _ => by kernel_rfl, ⟨fun _ => by kernel_rfl, ⟨fun _ => by kernel_rfl, ⟨fun _ => by kernel_rfl, ⟨fun _ => by kernel_rfl, trivial⟩⟩⟩⟩⟩⟩⟩⟩) ⟨hB, hT, hU, hP, Nat.zero_le _, .inl rfl, Sup.none _⟩ ?_
  clear hB hT hU hP
  rintro ⟨i, tu⟩ v ⟨hB, hT, hU, hP, hi, huok, hsup⟩
  simp only at hB hT hU hP hi huok hsup
  show CW _ _ _ _ _ _ _ [(58, .int .i64 ((i : Nat) : Int)), (56, .slice ao no_ co), (57, .int .i64 no_), (1, .slice ao no_ co), (4, .bool false), (5, .pointer (some ⟨g, 0, none⟩)), (7, .pointer (some ⟨gU, 0, none⟩)), (8, .slice aL nL cL)] _
  by_cases hlt : i < no_
  · skip
    obtain ⟨g1, o1, a1, n1, c1, e1, hc1, hs1⟩ := (hMo.go hB).row i hlt
    subst e1
    have hmi : Mo.getD i [] ∈ Mo := by rw [List.getD, List.getElem?_eq_getElem (by rw [hMo.len]; exact hlt)]; exact List.getElem_mem _
    obtain ⟨kk, hkk⟩ : ∃ kk, Mo.getD i [] = kk := ⟨_, rfl⟩
    rw [hkk] at hs1 hmi
    refine cw_seq ?_
    refine cw_region ?_
    refine rv 59 (.bool true) (fun _ => ol_conv (v := .bool (decide (((i : Nat) : Int) < (no_ : Int)))) (by kernel_rfl) (congrArg Value.bool (decide_eq_true (by omega)))) ?_
    refine rw_nil ?_
    refine nw_then ?_
    refine cw_seq ?_
    refine cw_cond_t (fun _ => by kernel_rfl) ?_
    refine cw_skip ?_
    refine nw_then ?_
    refine cw_seq ?_
    refine cw_block ?_
    refine cw_seq ?_
    refine cw_region ?_
    refine rv 60 (.pointer (some ⟨g1, o1 + i * 1, none⟩)) (fun _ => ol_index 41 _ _ g1 o1 i no_ co 1 27 rfl (by kernel_rfl) (by kernel_rfl) hlt Tryz.underlying41 (by kernel_rfl)) ?_
    refine rv 61 (.slice a1 n1 c1) (fun _ => ol_cell 27 _ _ _ _ rfl (by kernel_rfl) hc1 Tryz.underlying27 rfl) ?_
    refine rp 12 (.slice a1 n1 c1) ?_
    refine rw_nil ?_
    refine nw_then ?_
    refine cw_region ?_
    refine rp 62 (.pointer (some ⟨gU, 0, none⟩)) ?_
    refine rp 63 (.slice a1 n1 c1) ?_
    refine rw_newS 64 #[.int .u8 116, .int .u8 111, .int .u8 32, .int .u8 103, .int .u8 111] 5 5 (fun _ => by kernel_rfl) (fun _ => by kernel_rfl) ?_
    intro wG gG hnG
    obtain ⟨wH, hrH, hbH, hsG⟩ := const_g hnG (K := An) (fun _ _ => trivial)
    refine rw_v 65 (.slice (some ⟨gG, 0, none⟩) 5 5) (fun _ => by kernel_rfl) (fun _ => hrH _ _ _ rfl (by kernel_rfl)) ?_
    replace hB := hB.go hbH
    replace hT := hT.go hbH
    replace hU := hU.go hbH
    replace hP := hP.go hbH
    replace hs1 := hs1.go hbH
    refine rw_call 66 11 #[.pointer (some ⟨gU, 0, none⟩), .slice a1 n1 c1, .slice (some ⟨gG, 0, none⟩) 5 5] (fun _ => by kernel_rfl) (fun _ => by kernel_rfl) (R := fun u w' => u = .int .i64 (putE kk goB) ∧ Tri An w' gU (putT tu kk goB) ∧ Touch gU (wH) w') ((tput_any hU hs1 hsG (fun _ _ => trivial))) ?_
    rintro _ u8 ⟨rfl, hTn, hto⟩
    have hgl := hU.lt
    replace hT := hT.touch hto hU (by omega)
    replace hP := hP.touch hto hU
    replace hs1 := hs1.touch hto hU
    replace hsG := hsG.touch hto hU
    replace hB : Bl w u8 := hto.below hB hgu hB.size
    replace hU := hTn
    refine rw_nil ?_
    refine nw_block ?_
    refine nw_then ?_
    refine cw_region ?_
    refine rv 67 (.int .i64 (((i : Nat) : Int) + 1)) (fun _ => ol_conv (v := .int .i64 (IntKind.i64.wrap (((i : Nat) : Int) + 1))) (by kernel_rfl) (congrArg (Value.int .i64) (wrap64 (by omega) (by omega)))) ?_
    refine rp 58 (.int .i64 (((i : Nat) : Int) + 1)) ?_
    refine rw_nil ?_
    exact nw_round (E := fun z => [(58, .int .i64 ((z.1 : Nat) : Int)), (56, .slice (some ⟨g1, o1, none⟩) no_ co), (57, .int .i64 no_), (1, .slice (some ⟨g1, o1, none⟩) no_ co), (4, .bool false), (5, .pointer (some ⟨g, 0, none⟩)), (7, .pointer (some ⟨gU, 0, none⟩)), (8, .slice aL nL cL)]) (R := fun z v => Bl w v ∧ Tri An v g t ∧ Tri An v gU z.2 ∧ PAt An v aL nL cL vsL l ∧ z.1 ≤ no_ ∧ (z.2 = no ∨ Tr.Ok 64 z.2) ∧ Sup z.2 (fun k => k ∈ Mo)) (μ := fun z => no_ - z.1) (x := (i, tu)) (i + 1, putT tu kk goB) (by exact ⟨fun _ => by kernel_rfl, ⟨fun _ => by kernel_rfl, ⟨fun _ => by kernel_rfl, ⟨fun _ => by kernel_rfl, ⟨fun _ => by kernel_rfl, ⟨fun _ => by kernel_rfl, ⟨fun _ => by kernel_rfl, ⟨fun _ => by kernel_rfl, trivial⟩⟩⟩⟩⟩⟩⟩⟩) ⟨hB, hT, hU, hP, by omega, putT_ok huok hs1.ag.b, (hsup.put huok hs1.ag.b).mono (fun y _ _ hy => by rcases hy with rfl | hy; exact hmi; exact hy)⟩ (by show no_ - (i + 1) < no_ - i; omega)
  obtain rfl : i = no_ := by omega
  show CW _ _ _ _ _ _ _ [(58, .int .i64 ((i : Nat) : Int)), (56, .slice ao i co), (57, .int .i64 ((i : Nat) : Int)), (1, .slice ao i co), (4, .bool false), (5, .pointer (some ⟨g, 0, none⟩)), (7, .pointer (some ⟨gU, 0, none⟩)), (8, .slice aL nL cL)] _
  refine cw_seq ?_
  refine cw_region ?_
  refine rv 59 (.bool false) (fun _ => ol_conv (v := .bool (decide (((i : Nat) : Int) < ((i : Nat) : Int)))) (by kernel_rfl) (congrArg Value.bool (decide_eq_false (by omega)))) ?_
  refine rw_nil ?_
  refine nw_then ?_
  refine cw_seq ?_
  refine cw_cond_f (fun _ => by kernel_rfl) ?_
  refine cw_exit ?_
  refine nw_exit_then ?_
  refine nw_exit_then ?_
  refine nw_exit_here ?_
  refine nw_then ?_
  refine cw_seq ?_
  refine cw_seq ?_
  refine cw_region ?_
  refine rp 68 (.slice aL nL cL) ?_
  refine rp 69 (.int .i64 nL) ?_
  refine rv 70 (.int .i64 (((nL : Nat) : Int) - 1)) (fun _ => ol_conv (v := .int .i64 (IntKind.i64.wrap (((nL : Nat) : Int) - 1))) (by kernel_rfl) (congrArg (Value.int .i64) (wrap64 (by omega) (by omega)))) ?_
  refine rp 13 (.int .i64 (((nL : Nat) : Int) - 1)) ?_
  refine rw_nil ?_
  refine nw_then ?_
  refine cw_block ?_
  refine cw_loop (X := Nat × Tr) (fun z => [(13, .int .i64 (((z.1 : Nat) : Int) - 1)), (1, .slice ao i co), (4, .bool false), (5, .pointer (some ⟨g, 0, none⟩)), (7, .pointer (some ⟨gU, 0, none⟩)), (8, .slice aL nL cL)]) (fun z v => Bl w v ∧ Tri An v g t ∧ Tri An v gU z.2 ∧ PAt An v aL nL cL vsL l ∧ z.1 ≤ nL ∧ Lay z.2 l z.1 (fun k => k ∈ Mo)) (fun z => z.1) (nL, tu) (by exact ⟨fun _ => by kernel_rfl, ⟨fun _ => by kernel_rfl, ⟨fun _ => by kernel_rfl, ⟨fun _ => by kernel_rfl, ⟨fun _ => by kernel_rfl, ⟨fun _ => by kernel_rfl, trivial⟩⟩⟩⟩⟩⟩) ⟨hB, hT, hU, hP, Nat.le_refl _, ⟨huok, hsup.mono (fun _ _ _ h => .inl h), fun q k x hq he => by rw [List.getElem?_eq_none (by omega)] at he; cases he⟩⟩ ?_
  clear hB hT hU hP huok hsup
  rintro ⟨m, tu⟩ v ⟨hB, hT, hU, hP, hm, hLay⟩
  simp only at hB hT hU hP hm hLay
  show CW _ _ _ _ _ _ _ [(13, .int .i64 (((m : Nat) : Int) - 1)), (1, .slice ao i co), (4, .bool false), (5, .pointer (some ⟨g, 0, none⟩)), (7, .pointer (some ⟨gU, 0, none⟩)), (8, .slice aL nL cL)] _
  cases m with
  | zero =>
    show CW _ _ _ _ _ _ _ [(13, .int .i64 (-1)), (1, .slice ao i co), (4, .bool false), (5, .pointer (some ⟨g, 0, none⟩)), (7, .pointer (some ⟨gU, 0, none⟩)), (8, .slice aL nL cL)] _
    refine cw_seq ?_
    refine cw_seq ?_
    refine cw_region ?_
    refine rp 71 (.int .i64 (-1)) ?_
    refine rp 72 (.bool false) ?_
    refine rw_nil ?_
    refine nw_then ?_
    refine cw_cond_f (fun _ => by kernel_rfl) ?_
    refine cw_exit ?_
    refine nw_exit_then ?_
    refine nw_exit_then ?_
    refine nw_exit_here ?_
    refine nw_then ?_
    refine cw_seq ?_
    refine cw_seq ?_
    refine cw_region ?_
    refine rp 87 (.slice ao i co) ?_
    refine rp 88 (.int .i64 i) ?_
    refine rp 89 (.int .i64 0) ?_
    refine rw_nil ?_
    refine nw_then ?_
    refine cw_block ?_
    refine cw_loop (X := Nat × Tr) (fun z => [(89, .int .i64 ((z.1 : Nat) : Int)), (87, .slice ao i co), (88, .int .i64 i), (4, .bool false), (5, .pointer (some ⟨g, 0, none⟩)), (7, .pointer (some ⟨gU, 0, none⟩)), (8, .slice aL nL cL)]) (fun z v => Bl w v ∧ Tri An v g t ∧ Tri An v gU z.2 ∧ PAt An v aL nL cL vsL l ∧ z.1 ≤ i ∧ Lay z.2 l 0 (fun k => k ∈ Mo.drop z.1)) (fun z => i - z.1) (0, tu) (by exact ⟨fun _ => by kernel_rfl, ⟨fun _ => by kernel_rfl, ⟨fun _ => by kernel_rfl, ⟨fun _ => by kernel_rfl, ⟨fun _ => by kernel_rfl, ⟨fun _ => by kernel_rfl, ⟨fun _ => by kernel_rfl, trivial⟩⟩⟩⟩⟩⟩⟩) ⟨hB, hT, hU, hP, Nat.zero_le _, hLay⟩ ?_
    clear hB hT hU hP hLay
    rintro ⟨i4, tu⟩ v ⟨hB, hT, hU, hP, hi, hLay⟩
    simp only at hB hT hU hP hi hLay
    show CW _ _ _ _ _ _ _ [(89, .int .i64 ((i4 : Nat) : Int)), (87, .slice ao i co), (88, .int .i64 i), (4, .bool false), (5, .pointer (some ⟨g, 0, none⟩)), (7, .pointer (some ⟨gU, 0, none⟩)), (8, .slice aL nL cL)] _
    by_cases hlt : i4 < i
    · skip
      obtain ⟨g1, o1, a1, n1, c1, e1, hc1, hs1⟩ := (hMo.go hB).row i4 hlt
      subst e1
      obtain ⟨kk, hkk⟩ : ∃ kk, Mo.getD i4 [] = kk := ⟨_, rfl⟩
      rw [hkk] at hs1
      have hdr : Mo.drop i4 = kk :: Mo.drop (i4 + 1) := by rw [List.drop_eq_getElem_cons (by rw [hMo.len]; exact hlt)]; rw [← hkk]; simp [List.getD, show i4 < Mo.length by rw [hMo.len]; exact hlt]
      have lk1 := hs1.len
      refine cw_seq ?_
      refine cw_region ?_
      refine rv 90 (.bool true) (fun _ => ol_conv (v := .bool (decide (((i4 : Nat) : Int) < (i : Int)))) (by kernel_rfl) (congrArg Value.bool (decide_eq_true (by omega)))) ?_
      refine rw_nil ?_
      refine nw_then ?_
      refine cw_seq ?_
      refine cw_cond_t (fun _ => by kernel_rfl) ?_
      refine cw_skip ?_
      refine nw_then ?_
      refine cw_seq ?_
      refine cw_block ?_
      refine cw_seq ?_
      refine cw_region ?_
      refine rv 91 (.pointer (some ⟨g1, o1 + i4 * 1, none⟩)) (fun _ => ol_index 41 _ _ g1 o1 i4 i co 1 27 rfl (by kernel_rfl) (by kernel_rfl) hlt Tryz.underlying41 (by kernel_rfl)) ?_
      refine rv 92 (.slice a1 n1 c1) (fun _ => ol_cell 27 _ _ _ _ rfl (by kernel_rfl) hc1 Tryz.underlying27 rfl) ?_
      refine rp 15 (.slice a1 n1 c1) ?_
      refine rw_nil ?_
      refine nw_then ?_
      refine cw_seq ?_
      refine cw_region ?_
      refine rp 94 (.slice aL nL cL) ?_
      refine rp 95 (.slice a1 n1 c1) ?_
      by_cases hn32 : n1 ≤ 32
      · skip
        cases hat : isAt kk l with
        | true =>
          refine rw_call 96 17 #[.slice aL nL cL, .slice a1 n1 c1] (fun _ => by kernel_rfl) (fun _ => by kernel_rfl) (R := fun u w' => (∃ a2 n2 c2, u = .tuple #[.slice a2 n2 c2, .bool true, .int .i64 0] ∧ ∃ x, l[atN kk l]? = some (kk, x) ∧ Sk An w' a2 n2 c2 x) ∧ Bl (v) w') (rget_is hP hs1 (by omega) hRel.klen hn32 hat) ?_
          rintro _ u9 ⟨⟨a9, n9, c9, rfl, x9, _, hs9⟩, hb10⟩
          replace hB := hB.go hb10
          replace hT := hT.go hb10
          replace hU := hU.go hb10
          replace hP := hP.go hb10
          replace hs1 := hs1.go hb10
          refine rp 93 (.tuple #[.slice a9 n9 c9, .bool true, .int .i64 0]) ?_
          refine rp 97 (.slice a9 n9 c9) ?_
          refine rp 98 (.bool true) ?_
          refine rp 99 (.int .i64 0) ?_
          refine rp 16 (.slice a9 n9 c9) ?_
          refine rp 17 (.bool true) ?_
          refine rp 18 (.int .i64 0) ?_
          refine rw_nil ?_
          refine nw_then ?_
          refine cw_seq ?_
          refine cw_region ?_
          refine rp 100 (.bool true) ?_
          refine rp 101 (.bool false) ?_
          refine rw_nil ?_
          refine nw_then ?_
          refine cw_cond_f (fun _ => by kernel_rfl) ?_
          refine cw_skip ?_
          refine nw_block ?_
          refine nw_then ?_
          refine cw_region ?_
          refine rv 105 (.int .i64 (((i4 : Nat) : Int) + 1)) (fun _ => ol_conv (v := .int .i64 (IntKind.i64.wrap (((i4 : Nat) : Int) + 1))) (by kernel_rfl) (congrArg (Value.int .i64) (wrap64 (by omega) (by omega)))) ?_
          refine rp 89 (.int .i64 (((i4 : Nat) : Int) + 1)) ?_
          refine rw_nil ?_
          exact nw_round (E := fun z => [(89, .int .i64 ((z.1 : Nat) : Int)), (87, .slice (some ⟨g1, o1, none⟩) i co), (88, .int .i64 i), (4, .bool false), (5, .pointer (some ⟨g, 0, none⟩)), (7, .pointer (some ⟨gU, 0, none⟩)), (8, .slice aL nL cL)]) (R := fun z v => Bl w v ∧ Tri An v g t ∧ Tri An v gU z.2 ∧ PAt An v aL nL cL vsL l ∧ z.1 ≤ i ∧ Lay z.2 l 0 (fun k => k ∈ Mo.drop z.1)) (μ := fun z => i - z.1) (x := (i4, tu)) (i4 + 1, tu) (by exact ⟨fun _ => by kernel_rfl, ⟨fun _ => by kernel_rfl, ⟨fun _ => by kernel_rfl, ⟨fun _ => by kernel_rfl, ⟨fun _ => by kernel_rfl, ⟨fun _ => by kernel_rfl, ⟨fun _ => by kernel_rfl, trivial⟩⟩⟩⟩⟩⟩⟩) ⟨hB, hT, hU, hP, by omega, hLay.mono (fun y _ _ hy => by rw [hdr] at hy; rcases List.mem_cons.1 hy with rfl | hy; exact .inr ((isAt_iff _ l hRel.s).1 hat); exact .inl hy)⟩ (by show i - (i4 + 1) < i - i4; omega)
        | false =>
          refine rw_call 96 17 #[.slice aL nL cL, .slice a1 n1 c1] (fun _ => by kernel_rfl) (fun _ => by kernel_rfl) (R := fun u w' => u = .tuple #[.slice none 0 0, .bool false, .int .i64 0] ∧ Bl (v) w') (rget_not hP hs1 (by omega) hRel.klen hn32 hat) ?_
          rintro _ u11 ⟨rfl, hb12⟩
          replace hB := hB.go hb12
          replace hT := hT.go hb12
          replace hU := hU.go hb12
          replace hP := hP.go hb12
          replace hs1 := hs1.go hb12
          refine rp 93 (.tuple #[.slice none 0 0, .bool false, .int .i64 0]) ?_
          refine rp 97 (.slice none 0 0) ?_
          refine rp 98 (.bool false) ?_
          refine rp 99 (.int .i64 0) ?_
          refine rp 16 (.slice none 0 0) ?_
          refine rp 17 (.bool false) ?_
          refine rp 18 (.int .i64 0) ?_
          refine rw_nil ?_
          refine nw_then ?_
          refine cw_seq ?_
          refine cw_region ?_
          refine rp 100 (.bool false) ?_
          refine rp 101 (.bool true) ?_
          refine rw_nil ?_
          refine nw_then ?_
          refine cw_cond_t (fun _ => by kernel_rfl) ?_
          refine cw_region ?_
          refine rp 102 (.pointer (some ⟨gU, 0, none⟩)) ?_
          refine rp 103 (.slice a1 n1 c1) ?_
          refine rw_call 104 12 #[.pointer (some ⟨gU, 0, none⟩), .slice a1 n1 c1] (fun _ => by kernel_rfl) (fun _ => by kernel_rfl) (R := fun u w' => (∃ b z, u = .tuple #[.bool b, .int .i64 z]) ∧ Tri An w' gU (delT tu kk) ∧ Touch gU (u11) w') ((tdel_any hU hs1 (fun _ _ => trivial))) ?_
          rintro _ u13 ⟨⟨bD, zD, rfl⟩, hTn, hto⟩
          have hgl := hU.lt
          replace hT := hT.touch hto hU (by omega)
          replace hP := hP.touch hto hU
          replace hs1 := hs1.touch hto hU
          replace hB : Bl w u13 := hto.below hB hgu hB.size
          replace hU := hTn
          refine rw_nil ?_
          refine nw_block ?_
          refine nw_then ?_
          refine cw_region ?_
          refine rv 105 (.int .i64 (((i4 : Nat) : Int) + 1)) (fun _ => ol_conv (v := .int .i64 (IntKind.i64.wrap (((i4 : Nat) : Int) + 1))) (by kernel_rfl) (congrArg (Value.int .i64) (wrap64 (by omega) (by omega)))) ?_
          refine rp 89 (.int .i64 (((i4 : Nat) : Int) + 1)) ?_
          refine rw_nil ?_
          exact nw_round (E := fun z => [(89, .int .i64 ((z.1 : Nat) : Int)), (87, .slice (some ⟨g1, o1, none⟩) i co), (88, .int .i64 i), (4, .bool false), (5, .pointer (some ⟨g, 0, none⟩)), (7, .pointer (some ⟨gU, 0, none⟩)), (8, .slice aL nL cL)]) (R := fun z v => Bl w v ∧ Tri An v g t ∧ Tri An v gU z.2 ∧ PAt An v aL nL cL vsL l ∧ z.1 ≤ i ∧ Lay z.2 l 0 (fun k => k ∈ Mo.drop z.1)) (μ := fun z => i - z.1) (x := (i4, tu)) (i4 + 1, delT tu kk) (by exact ⟨fun _ => by kernel_rfl, ⟨fun _ => by kernel_rfl, ⟨fun _ => by kernel_rfl, ⟨fun _ => by kernel_rfl, ⟨fun _ => by kernel_rfl, ⟨fun _ => by kernel_rfl, ⟨fun _ => by kernel_rfl, trivial⟩⟩⟩⟩⟩⟩⟩) ⟨hB, hT, hU, hP, by omega, (hLay.del hRel hs1.ag.b (fun h => hat)).mono (fun y _ _ hy => by rw [hdr] at hy; rcases List.mem_cons.1 hy.2 with q | hy2; exact absurd q hy.1; exact .inl hy2)⟩ (by show i - (i4 + 1) < i - i4; omega)
      refine rw_call 96 17 #[.slice aL nL cL, .slice a1 n1 c1] (fun _ => by kernel_rfl) (fun _ => by kernel_rfl) (R := fun u w' => u = .tuple #[.slice none 0 0, .bool false, .int .i64 70] ∧ Bl (v) w') (rget_long hP hs1 (by omega) (by omega)) ?_
      rintro _ u14 ⟨rfl, hb15⟩
      replace hB := hB.go hb15
      replace hT := hT.go hb15
      replace hU := hU.go hb15
      replace hP := hP.go hb15
      replace hs1 := hs1.go hb15
      refine rp 93 (.tuple #[.slice none 0 0, .bool false, .int .i64 70]) ?_
      refine rp 97 (.slice none 0 0) ?_
      refine rp 98 (.bool false) ?_
      refine rp 99 (.int .i64 70) ?_
      refine rp 16 (.slice none 0 0) ?_
      refine rp 17 (.bool false) ?_
      refine rp 18 (.int .i64 70) ?_
      refine rw_nil ?_
      refine nw_then ?_
      refine cw_seq ?_
      refine cw_region ?_
      refine rp 100 (.bool false) ?_
      refine rp 101 (.bool true) ?_
      refine rw_nil ?_
      refine nw_then ?_
      refine cw_cond_t (fun _ => by kernel_rfl) ?_
      refine cw_region ?_
      refine rp 102 (.pointer (some ⟨gU, 0, none⟩)) ?_
      refine rp 103 (.slice a1 n1 c1) ?_
      refine rw_call 104 12 #[.pointer (some ⟨gU, 0, none⟩), .slice a1 n1 c1] (fun _ => by kernel_rfl) (fun _ => by kernel_rfl) (R := fun u w' => (∃ b z, u = .tuple #[.bool b, .int .i64 z]) ∧ Tri An w' gU (delT tu kk) ∧ Touch gU (u14) w') ((tdel_any hU hs1 (fun _ _ => trivial))) ?_
      rintro _ u16 ⟨⟨bD, zD, rfl⟩, hTn, hto⟩
      have hgl := hU.lt
      replace hT := hT.touch hto hU (by omega)
      replace hP := hP.touch hto hU
      replace hs1 := hs1.touch hto hU
      replace hB : Bl w u16 := hto.below hB hgu hB.size
      replace hU := hTn
      refine rw_nil ?_
      refine nw_block ?_
      refine nw_then ?_
      refine cw_region ?_
      refine rv 105 (.int .i64 (((i4 : Nat) : Int) + 1)) (fun _ => ol_conv (v := .int .i64 (IntKind.i64.wrap (((i4 : Nat) : Int) + 1))) (by kernel_rfl) (congrArg (Value.int .i64) (wrap64 (by omega) (by omega)))) ?_
      refine rp 89 (.int .i64 (((i4 : Nat) : Int) + 1)) ?_
      refine rw_nil ?_
      exact nw_round (E := fun z => [(89, .int .i64 ((z.1 : Nat) : Int)), (87, .slice (some ⟨g1, o1, none⟩) i co), (88, .int .i64 i), (4, .bool false), (5, .pointer (some ⟨g, 0, none⟩)), (7, .pointer (some ⟨gU, 0, none⟩)), (8, .slice aL nL cL)]) (R := fun z v => Bl w v ∧ Tri An v g t ∧ Tri An v gU z.2 ∧ PAt An v aL nL cL vsL l ∧ z.1 ≤ i ∧ Lay z.2 l 0 (fun k => k ∈ Mo.drop z.1)) (μ := fun z => i - z.1) (x := (i4, tu)) (i4 + 1, delT tu kk) (by exact ⟨fun _ => by kernel_rfl, ⟨fun _ => by kernel_rfl, ⟨fun _ => by kernel_rfl, ⟨fun _ => by kernel_rfl, ⟨fun _ => by kernel_rfl, ⟨fun _ => by kernel_rfl, ⟨fun _ => by kernel_rfl, trivial⟩⟩⟩⟩⟩⟩⟩) ⟨hB, hT, hU, hP, by omega, (hLay.del hRel hs1.ag.b (fun h => absurd h (by omega))).mono (fun y _ _ hy => by rw [hdr] at hy; rcases List.mem_cons.1 hy.2 with q | hy2; exact absurd q hy.1; exact .inl hy2)⟩ (by show i - (i4 + 1) < i - i4; omega)
    obtain rfl : i4 = i := by omega
    obtain rfl : t = tu := (hLay.one hRel (fun y hy => by rw [List.drop_eq_nil_of_le (by rw [hMo.len]; exact Nat.le_refl _)] at hy; cases hy)).symm
    show CW _ _ _ _ _ _ _ [(89, .int .i64 ((i4 : Nat) : Int)), (87, .slice ao i4 co), (88, .int .i64 ((i4 : Nat) : Int)), (4, .bool false), (5, .pointer (some ⟨g, 0, none⟩)), (7, .pointer (some ⟨gU, 0, none⟩)), (8, .slice aL nL cL)] _
    refine cw_seq ?_
    refine cw_region ?_
    refine rv 90 (.bool false) (fun _ => ol_conv (v := .bool (decide (((i4 : Nat) : Int) < ((i4 : Nat) : Int)))) (by kernel_rfl) (congrArg Value.bool (decide_eq_false (by omega)))) ?_
    refine rw_nil ?_
    refine nw_then ?_
    refine cw_seq ?_
    refine cw_cond_f (fun _ => by kernel_rfl) ?_
    refine cw_exit ?_
    refine nw_exit_then ?_
    refine nw_exit_then ?_
    refine nw_exit_here ?_
    refine nw_then ?_
    refine cw_seq ?_
    refine cw_region ?_
    refine rp 106 (.pointer (some ⟨g, 0, none⟩)) ?_
    refine rw_call 107 18 #[.pointer (some ⟨g, 0, none⟩)] (fun _ => by kernel_rfl) (fun _ => by kernel_rfl) (R := fun u w' => u = .agg (B8 ds) ∧ Bl (v) w') (((root_any hT hM).mono (fun e w' ⟨u, e1, e2, e3⟩ => ⟨u, e1, by rw [e2, hds], e3⟩))) ?_
    rintro _ u17 ⟨rfl, hb18⟩
    replace hB := hB.go hb18
    replace hT := hT.go hb18
    replace hU := hU.go hb18
    replace hP := hP.go hb18
    refine rp 108 (.pointer (some ⟨gU, 0, none⟩)) ?_
    refine rw_call 109 18 #[.pointer (some ⟨gU, 0, none⟩)] (fun _ => by kernel_rfl) (fun _ => by kernel_rfl) (R := fun u w' => u = .agg (B8 ds) ∧ Bl (u17) w') (((root_any hU hM).mono (fun e w' ⟨u, e1, e2, e3⟩ => ⟨u, e1, by rw [e2, hds], e3⟩))) ?_
    rintro _ u19 ⟨rfl, hb20⟩
    replace hB := hB.go hb20
    replace hT := hT.go hb20
    replace hU := hU.go hb20
    replace hP := hP.go hb20
    refine rv 110 (.bool true) (fun _ => ol_eqD rfl (by kernel_rfl) (by kernel_rfl) hdl) ?_
    refine rp 111 (.bool true) ?_
    refine rp 112 (.pointer (some ⟨g, 0, none⟩)) ?_
    refine rw_call 113 20 #[.pointer (some ⟨g, 0, none⟩)] (fun _ => by kernel_rfl) (fun _ => by kernel_rfl) (R := RNo (u19) t) (nodes_any hT hM) ?_
    rintro _ u21 ⟨⟨aN, nN, cN, rfl, hN, hNb, hNn⟩, hb22⟩
    replace hB := hB.go hb22
    replace hT := hT.go hb22
    replace hU := hU.go hb22
    replace hP := hP.go hb22
    refine rp 114 (.pointer (some ⟨gU, 0, none⟩)) ?_
    refine rw_call 115 20 #[.pointer (some ⟨gU, 0, none⟩)] (fun _ => by kernel_rfl) (fun _ => by kernel_rfl) (R := RNo (u21) t) (nodes_any hU hM) ?_
    rintro _ u23 ⟨⟨aO, nO, cO, rfl, hO2, hOb, hOn⟩, hb24⟩
    replace hB := hB.go hb24
    replace hT := hT.go hb24
    replace hU := hU.go hb24
    replace hP := hP.go hb24
    replace hN := hN.go hb24
    refine rw_call 116 19 #[.slice aN nN cN, .slice aO nO cO] (fun _ => by kernel_rfl) (fun _ => by kernel_rfl) (R := fun u w' => u = .bool true ∧ Bl (u23) w') (((sameall_any hN hO2 (by omega)).mono (fun e w' ⟨u, e1, e2, e3⟩ => ⟨u, e1, by rw [e2, decide_eq_true rfl], e3⟩))) ?_
    rintro _ u25 ⟨rfl, hb26⟩
    replace hB := hB.go hb26
    replace hT := hT.go hb26
    replace hU := hU.go hb26
    replace hP := hP.go hb26
    replace hN := hN.go hb26
    replace hO2 := hO2.go hb26
    refine rp 117 (.bool true) ?_
    refine rp 118 (.bool true) ?_
    refine rp 119 (.pointer (some ⟨g, 0, none⟩)) ?_
    refine rw_call 120 21 #[.pointer (some ⟨g, 0, none⟩)] (fun _ => by kernel_rfl) (fun _ => by kernel_rfl) (R := fun u w' => u = .int .i64 ((nL : Nat) : Int) ∧ Bl (u25) w') (((len_any hT (by rw [hRel.ents, hP.ll]; omega)).mono (fun e w' ⟨u, e1, e2, e3⟩ => ⟨u, e1, by rw [e2, hRel.ents, hP.ll], e3⟩))) ?_
    rintro _ u27 ⟨rfl, hb28⟩
    replace hB := hB.go hb28
    replace hT := hT.go hb28
    replace hU := hU.go hb28
    replace hP := hP.go hb28
    replace hN := hN.go hb28
    replace hO2 := hO2.go hb28
    refine rp 121 (.slice aL nL cL) ?_
    refine rp 122 (.int .i64 nL) ?_
    refine rv 123 (.bool true) (fun _ => ol_conv (v := .bool (((nL : Nat) : Int) == (nL : Int))) (by kernel_rfl) (congrArg Value.bool (beq_self_eq_true _))) ?_
    refine rp 124 (.bool true) ?_
    refine rp 125 (.bool true) ?_
    refine rp 126 (.pointer (some ⟨gU, 0, none⟩)) ?_
    refine rw_call 127 21 #[.pointer (some ⟨gU, 0, none⟩)] (fun _ => by kernel_rfl) (fun _ => by kernel_rfl) (R := fun u w' => u = .int .i64 ((nL : Nat) : Int) ∧ Bl (u27) w') (((len_any hU (by rw [hRel.ents, hP.ll]; omega)).mono (fun e w' ⟨u, e1, e2, e3⟩ => ⟨u, e1, by rw [e2, hRel.ents, hP.ll], e3⟩))) ?_
    rintro _ u29 ⟨rfl, hb30⟩
    replace hB := hB.go hb30
    replace hT := hT.go hb30
    replace hU := hU.go hb30
    replace hP := hP.go hb30
    replace hN := hN.go hb30
    replace hO2 := hO2.go hb30
    refine rp 128 (.slice aL nL cL) ?_
    refine rp 129 (.int .i64 nL) ?_
    refine rv 130 (.bool true) (fun _ => ol_conv (v := .bool (((nL : Nat) : Int) == (nL : Int))) (by kernel_rfl) (congrArg Value.bool (beq_self_eq_true _))) ?_
    refine rp 131 (.bool true) ?_
    refine rp 4 (.bool true) ?_
    refine rw_nil ?_
    refine nw_then ?_
    refine cw_ret ?_
    exact nw_ret_body (.bool true) (fun _ => by kernel_rfl) ⟨rfl, hB⟩
  | succ m =>
    have hlt : m < nL := by omega
    obtain ⟨g3, o3, a1, n1, c1, a2, n2, c2, k1, x1, ea, hej, hc1, hc2, hs1, hs2⟩ := hP.at hlt
    subst ea
    rw [show (((m + 1 : Nat) : Int) - 1) = ((m : Nat) : Int) from by omega]
    show CW _ _ _ _ _ _ _ [(13, .int .i64 ((m : Nat) : Int)), (1, .slice ao i co), (4, .bool false), (5, .pointer (some ⟨g, 0, none⟩)), (7, .pointer (some ⟨gU, 0, none⟩)), (8, .slice (some ⟨g3, o3, none⟩) nL cL)] _
    have hS : Cl2 v ⟨g3, o3 + m * 2, none⟩ ⟨g3, o3 + m * 2 + 1, none⟩ (.slice a1 n1 c1) (.slice a2 n2 c2) := ⟨hc1, hc2⟩
    refine cw_seq ?_
    refine cw_seq ?_
    refine cw_region ?_
    refine rp 71 (.int .i64 ((m : Nat) : Int)) ?_
    refine rv 72 (.bool true) (fun _ => ol_conv (v := .bool (decide (((m : Nat) : Int) ≥ (0 : Int)))) (by kernel_rfl) (congrArg Value.bool (decide_eq_true (by omega)))) ?_
    refine rw_nil ?_
    refine nw_then ?_
    refine cw_cond_t (fun _ => by kernel_rfl) ?_
    refine cw_skip ?_
    refine nw_then ?_
    refine cw_seq ?_
    refine cw_block ?_
    have hSt : ∀ w', Touch gU v.drew w' → Cl2 w' ⟨g3, o3 + m * 2, none⟩ ⟨g3, o3 + m * 2 + 1, none⟩ (.slice a1 n1 c1) (.slice a2 n2 c2) := fun w' ht => ⟨by have hne2 : g3 ≠ gU := (fun e => by subst e; exact hU.noslice _ _ _ _ hc1); exact (World.cell?_of_block (a := ⟨g3, o3 + m * 2, none⟩) (ht.block g3 (block_lt_of_cell hc1) hne2)).trans hc1, by have hne2 : g3 ≠ gU := (fun e => by subst e; exact hU.noslice _ _ _ _ hc2); exact (World.cell?_of_block (a := ⟨g3, o3 + m * 2 + 1, none⟩) (ht.block g3 (block_lt_of_cell hc2) hne2)).trans hc2⟩
    refine cw_draw (fun v => Cl2 v ⟨g3, o3 + m * 2, none⟩ ⟨g3, o3 + m * 2 + 1, none⟩ (.slice a1 n1 c1) (.slice a2 n2 c2)) (by kernel_rfl) (hS.drew) ?_
    replace hS := hS.drew
    replace hB := hB.drew
    replace hT := hT.drew
    replace hU := hU.drew
    replace hP := hP.drew
    replace hs1 := hs1.drew
    replace hs2 := hs2.drew
    refine dt 0 75 (.pointer (some ⟨gU, 0, none⟩)) (fun v hv _ => by kernel_rfl) hS ?_
    refine dt 1 76 (.slice (some ⟨g3, o3, none⟩) nL cL) (fun v hv _ => by kernel_rfl) hS ?_
    refine dt 2 77 (.int .i64 ((m : Nat) : Int)) (fun v hv _ => by kernel_rfl) hS ?_
    refine dt 3 78 (.pointer (some ⟨g3, o3 + m * 2, none⟩)) (fun v hv _ => ol_index 26 _ _ g3 o3 m nL cL 2 45 rfl (by kernel_rfl) (by kernel_rfl) hlt Tryz.underlying26 (by kernel_rfl)) hS ?_
    refine dt 4 79 (.pointer (some ⟨g3, o3 + m * 2, none⟩)) (fun v hv _ => by kernel_rfl) hS ?_
    refine dt 5 80 (.slice a1 n1 c1) (fun v hv _ => ol_cell 27 _ _ _ _ rfl (by kernel_rfl) hv.cx Tryz.underlying27 rfl) hS ?_
    refine dt 6 81 (.slice (some ⟨g3, o3, none⟩) nL cL) (fun v hv _ => by kernel_rfl) hS ?_
    refine dt 7 82 (.int .i64 ((m : Nat) : Int)) (fun v hv _ => by kernel_rfl) hS ?_
    refine dt 8 83 (.pointer (some ⟨g3, o3 + m * 2, none⟩)) (fun v hv _ => ol_index 26 _ _ g3 o3 m nL cL 2 45 rfl (by kernel_rfl) (by kernel_rfl) hlt Tryz.underlying26 (by kernel_rfl)) hS ?_
    refine dt 9 84 (.pointer (some ⟨g3, o3 + m * 2 + 1, none⟩)) (fun v hv _ => by kernel_rfl) hS ?_
    refine dt 10 85 (.slice a2 n2 c2) (fun v hv _ => ol_cell 27 _ _ _ _ rfl (by kernel_rfl) hv.cy Tryz.underlying27 rfl) hS ?_
    refine dw_ready [11] (by kernel_rfl) (by simp) ?_
    have hS0 := hS
    refine ar_call 11 86 11 #[.pointer (some ⟨gU, 0, none⟩), .slice a1 n1 c1, .slice a2 n2 c2] rfl (fun _ => by kernel_rfl) (fun _ => by kernel_rfl) (R := fun u w' => u = .int .i64 (putE k1 x1) ∧ Tri An w' gU (putT tu k1 x1) ∧ Touch gU (v.drew) w') ((tput_any hU hs1 hs2 (fun _ _ => trivial))) (fun u w' h => hSt _ h.2.2) ?_ ar_nil
    rintro _ u31 ⟨rfl, hTn, hto⟩
    have hgl := hU.lt
    replace hT := hT.touch hto hU (by omega)
    replace hP := hP.touch hto hU
    replace hs1 := hs1.touch hto hU
    replace hs2 := hs2.touch hto hU
    replace hB : Bl w u31 := hto.below hB hgu hB.size
    replace hU := hTn
    refine dw_done (by kernel_rfl) ?_
    refine nw_block ?_
    refine nw_then ?_
    refine cw_region ?_
    refine rp 73 (.int .i64 ((m : Nat) : Int)) ?_
    refine rv 74 (.int .i64 (((m : Nat) : Int) - 1)) (fun _ => ol_conv (v := .int .i64 (IntKind.i64.wrap (((m : Nat) : Int) - 1))) (by kernel_rfl) (congrArg (Value.int .i64) (wrap64 (by omega) (by omega)))) ?_
    refine rp 13 (.int .i64 (((m : Nat) : Int) - 1)) ?_
    refine rw_nil ?_
    exact nw_round (E := fun z => [(13, .int .i64 (((z.1 : Nat) : Int) - 1)), (1, .slice ao i co), (4, .bool false), (5, .pointer (some ⟨g, 0, none⟩)), (7, .pointer (some ⟨gU, 0, none⟩)), (8, .slice (some ⟨g3, o3, none⟩) nL cL)]) (R := fun z v => Bl w v ∧ Tri An v g t ∧ Tri An v gU z.2 ∧ PAt An v (some ⟨g3, o3, none⟩) nL cL vsL l ∧ z.1 ≤ nL ∧ Lay z.2 l z.1 (fun k => k ∈ Mo)) (μ := fun z => z.1) (x := (m + 1, tu)) (m, putT tu k1 x1) (by exact ⟨fun _ => by kernel_rfl, ⟨fun _ => by kernel_rfl, ⟨fun _ => by kernel_rfl, ⟨fun _ => by kernel_rfl, ⟨fun _ => by kernel_rfl, ⟨fun _ => by kernel_rfl, trivial⟩⟩⟩⟩⟩⟩) ⟨hB, hT, hU, hP, by omega, hLay.put hRel hej⟩ (by show m < m + 1; omega)
end Go.Proofs.YtalhnnjpjaeakaaGreat

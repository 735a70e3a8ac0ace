/- What a tree is written as: its encoding, the nodes that are named on the way; a writer in memory. -/
import Derived.Test.YtalhnnjpjaeakaaGreatG20
import Derived.Test.YtalhnnjpjaeakaaGreatG24
import Derived.Maps.AppendAt
import Derived.Test.YtalhnnjpjaeakaaGreatG00
namespace Go.Proofs.YtalhnnjpjaeakaaGreat
open Go.RowKit
open Tr
set_option linter.unusedVariables false
set_option maxRecDepth 100000
namespace Tr
/-- The encoding of a tree's topmost node. -/
def encT : Tr → List Int
  | no => []
  | leaf p v => (NEP ⟨1, p, v, r0, []⟩).1
  | ext p c => (NEP ⟨2, p, [], referP (encT c), []⟩).1
  | br k x => (NEP ⟨3, [], x, r0, (List.range 16).map fun i => if (k i).isNo then r0 else referP (encT (k i))⟩).1
/-- What is named when a tree is referred to. -/
def nm1 (b : List Int) : List (List Int) := if b.length < 32 then [] else [b]
/-- The nodes that are named below the topmost, in their order. -/
def nmd : Tr → List (List Int)
  | no => []
  | leaf _ _ => []
  | ext _ c => nmd c ++ nm1 (encT c)
  | br k _ => (List.range 16).flatMap fun i => if (k i).isNo then [] else nmd (k i) ++ nm1 (encT (k i))
end Tr
def nodeP : Tr → PN
  | no => n0
  | leaf p v => ⟨1, p, v, r0, []⟩
  | ext p c => ⟨2, p, [], referP (encT c), []⟩
  | br k x => ⟨3, [], x, r0, (List.range 16).map fun i => if (k i).isNo then r0 else referP (encT (k i))⟩
theorem encT_node {t : Tr} (h : t ≠ no) : encT t = (NEP (nodeP t)).1 := by
  cases t with
  | no => exact absurd rfl h
  | leaf p v => rfl
  | ext p c => rfl
  | br k x => rfl
/-- Where bytes lie that a writer leaves alone. -/
def KW (gW : Nat) (vN : Value) (X : Nat → Prop) : Nat → Prop := fun b => b ≠ gW ∧ vN.ownBlock ≠ some b ∧ X b
/-- The row of names in memory: slices of bytes. -/
def RowS (K : Nat → Prop) (w : World) (vals : List Value) (ns : List (List Int)) : Prop := vals.length = ns.length ∧ ∀ j v, vals[j]? = some v → ∃ a n c, v = .slice a n c ∧ Sk K w a n c (ns.getD j [])
/-- A writer: its block, what it has named. -/
structure Wt (w : World) (gW base : Nat) (vN : Value) (X : Nat → Prop) (ns : List (List Int)) : Prop where
  r : Rw gW w #[vN] 81
  o : ∃ vals, w.ownsRow base 27 1 vN ns.length vals ∧ RowS (KW gW vN X) w vals ns
  b : base ≤ gW
/-- What a writer's call may change. -/
structure Wg (w w' : World) (gW : Nat) (vN vN' : Value) : Prop where
  os : w'.os = w.os
  tape : w'.tape = w.tape
  output : w'.output = w.output
  size : w.heap.size ≤ w'.heap.size
  block : ∀ k, k < w.heap.size → k ≠ gW → vN.ownBlock ≠ some k → w'.heap[k]? = w.heap[k]?
  own : vN'.ownBlock = vN.ownBlock ∨ ∀ k, vN'.ownBlock = some k → w.heap.size ≤ k
theorem Wg.of_below {w w' : World} {gW : Nat} {vN : Value} (h : Bl w w') : Wg w w' gW vN vN := ⟨Below.os h, Below.tape h, Below.output h, h.size, fun k hk _ _ => Below.block h k hk, .inl rfl⟩
theorem Wg.trans {w w1 w2 : World} {gW : Nat} {v v1 v2 : Value} (h : Wg w w1 gW v v1) (g : Wg w1 w2 gW v1 v2) : Wg w w2 gW v v2 := by
  refine ⟨g.os.trans h.os, g.tape.trans h.tape, g.output.trans h.output, Nat.le_trans h.size g.size, fun k hk hg hv => ?_, ?_⟩
  · refine (g.block k (Nat.lt_of_lt_of_le hk h.size) hg ?_).trans (h.block k hk hg hv)
    rcases h.own with e | e
    · rw [e]; exact hv
    · intro q; have := e k q; omega
  · rcases g.own with e | e
    · rcases h.own with e2 | e2
      · exact .inl (e.trans e2)
      · exact .inr (fun k hk => e2 k (e ▸ hk))
    · exact .inr (fun k hk => Nat.le_trans h.size (e k hk))
/-- A world that keeps all rows but the writer's. -/
theorem Wg.row {w w' : World} {gW base : Nat} {X : Nat → Prop} {vN vN' : Value} {ns : List (List Int)} (h : Wg w w' gW vN vN') (hw : Wt w gW base vN X ns) {g : Nat} {cells : Array Value} {T : TypeId} {fr : Nat × Nat} (hr : w.heap[g]? = some (.cells cells T fr)) (h1 : T ≠ 27) (h2 : T ≠ 81) : w'.heap[g]? = some (.cells cells T fr) := by
  refine (h.block g (lt_of_get hr) ?_ ?_).trans hr
  · rintro rfl
    have := hw.r
    rw [Rw, hr] at this
    simp at this
    exact h2 this.2.1
  · intro e
    obtain ⟨vals, ⟨_, ho⟩, _⟩ := hw.o
    rcases ho with ⟨rfl, _⟩ | ⟨g', cap, cur, rfl, _, hg, _⟩
    · cases e
    · have e : g' = g := by simpa [Value.ownBlock] using e
      subst e
      rw [hr] at hg
      simp at hg
      exact h1 hg.2.1
theorem Sk.wg {X : Nat → Prop} {w w' : World} {gW : Nat} {vN vN' : Value} {a : Option Addr} {n c : Nat} {bs : List Int} (h : Sk (KW gW vN X) w a n c bs) (g : Wg w w' gW vN vN') : Sk (KW gW vN' X) w' a n c bs := by
  refine ⟨⟨?_, h.ag.nil, h.ag.l, h.ag.b⟩, fun x hx hn => ?_⟩
  · rcases h.ag.i with h1 | ⟨gb, off, h1, h2, h3, h4, h5, h7⟩
    · exact .inl h1
    · refine .inr ⟨gb, off, h1, h2, h3, h4, h5, fun j hj => ?_⟩
      rw [← h7 j hj]
      have hk := h.k _ h1 h3
      exact World.cell?_of_block (g.block gb (block_lt_of_cell (h7 j hj)) hk.1 hk.2.1)
  · have hk := h.k x hx hn
    refine ⟨hk.1, ?_, hk.2.2⟩
    rcases g.own with e | e
    · rw [e]; exact hk.2.1
    · intro q
      have h1 := e _ q
      have h2 := h.old hx hn
      omega
theorem TA.wg {X : Nat → Prop} {w w' : World} {gW : Nat} {vN vN' : Value} (g : Wg w w' gW vN vN') : ∀ {t : Tr} {v : Value}, TA (KW gW vN X) w t v → TA (KW gW vN' X) w' t v := by
  intro t
  induction t with
  | no => intro v h; exact h
  | leaf p x => rintro v ⟨a, n, c, a', n', c', h1, h2, h3, h4⟩; exact ⟨a, n, c, a', n', c', h1, h2.wg g, h3.wg g, h4⟩
  | ext p t ih => rintro v ⟨a, n, c, u, h1, h2, h3⟩; exact ⟨a, n, c, u, h1, h2.wg g, ih h3⟩
  | br k x ih => rintro v ⟨vs, a, n, c, h1, h2, h3, h4⟩; exact ⟨vs, a, n, c, h1, fun i hi => ih i (h2 i hi), h3.wg g, h4⟩
theorem TK.wg {X : Nat → Prop} {w w' : World} {gW : Nat} {vN vN' : Value} {k : Nat → Tr} {vs : Nat → Value} (h : TK (KW gW vN X) w k vs) (g : Wg w w' gW vN vN') : TK (KW gW vN' X) w' k vs := fun i hi => (h i hi).wg g
theorem Rw.wg {w w' : World} {gW base : Nat} {X : Nat → Prop} {vN vN' : Value} {ns : List (List Int)} {g : Nat} {cells : Array Value} {T : TypeId} (h : Rw g w cells T) (hg : Wg w w' gW vN vN') (hw : Wt w gW base vN X ns) (h1 : T ≠ 27) (h2 : T ≠ 81) : Rw g w' cells T := hg.row hw h h1 h2
theorem Wt.go {w w' : World} {gW base : Nat} {X : Nat → Prop} {vN : Value} {ns : List (List Int)} (h : Wt w gW base vN X ns) (hb : Below w.heap.size w w') : Wt w' gW base vN X ns := by
  obtain ⟨vals, h1, h2, h3⟩ := h.o
  refine ⟨h.r.go hb, ⟨vals, ⟨h1.1, by
    rcases h1.2 with q | ⟨g, cap, cur, e1, e2, e3, e4⟩
    · exact .inl q
    · exact .inr ⟨g, cap, cur, e1, e2, (hb.block g (lt_of_get e3)).trans e3, e4⟩⟩, h2, fun j v hj => ?_⟩, h.b⟩
  obtain ⟨a, n, c, e, hs⟩ := h3 j v hj
  exact ⟨a, n, c, e, hs.go hb⟩
theorem Wt.lt {w : World} {gW base : Nat} {X : Nat → Prop} {vN : Value} {ns : List (List Int)} (h : Wt w gW base vN X ns) : gW < w.heap.size ∧ ∀ k, vN.ownBlock = some k → k < w.heap.size := by
  refine ⟨lt_of_get h.r, fun k hk => ?_⟩
  obtain ⟨vals, ⟨_, ho⟩, _⟩ := h.o
  rcases ho with ⟨rfl, _⟩ | ⟨g', cap, cur, rfl, _, hg, _⟩
  · cases hk
  · have e : g' = k := by simpa [Value.ownBlock] using hk
    subst e
    exact lt_of_get hg
theorem Wg.keep {X : Nat → Prop} {w w' : World} {gW : Nat} {vN vN' : Value} (g : Wg w w' gW vN vN') : Keep (KW gW vN X) (KW gW vN' X) w w' := fun b hK hb => ⟨g.block b hb hK.1 hK.2.1, hK.1, by
  rcases g.own with e | e
  · rw [e]; exact hK.2.1
  · intro q; have := e b q; omega, hK.2.2⟩
theorem Wg.go {a b c : World} {gW : Nat} {vN vN' : Value} (h : Wg a b gW vN vN') (hb : Below b.heap.size b c) : Wg a c gW vN vN' := h.trans (Wg.of_below hb)
theorem infoB : ∃ i, Tryz.prog.info? 27 = some i ∧ i.zero = some (.slice none 0 0) ∧ i.size = 1 ∧ i.bytes = 24 := by
  have h : (Tryz.prog.info? 27).map (fun i => (i.zero, i.size, i.bytes)) = some (some (.slice none 0 0), 1, 24) := by kernel_rfl
  cases hq : Tryz.prog.info? 27 with
  | none => rw [hq] at h; simp at h
  | some i => rw [hq] at h; simp at h; exact ⟨i, rfl, h.1, h.2.1, h.2.2⟩
theorem Wt.apart {w : World} {gW base : Nat} {X : Nat → Prop} {vN : Value} {ns : List (List Int)} (h : Wt w gW base vN X ns) : vN.ownBlock ≠ some gW := by
  intro e
  obtain ⟨vals, ⟨_, ho⟩, _⟩ := h.o
  rcases ho with ⟨rfl, _⟩ | ⟨g', cap, cur, rfl, _, hg, _⟩
  · cases e
  · have e : g' = gW := by simpa [Value.ownBlock] using e
    subst e
    have := h.r
    rw [Rw, hg] at this
    simp at this
/-- One name more. -/
theorem names_app {X : Nat → Prop} {w : World} {gW base : Nat} {vN : Value} {ns : List (List Int)} (hW : Wt w gW base vN X ns) {gL : Nat} {a : Option Addr} {n c : Nat} {b : List Int} (hs : Sk (KW gW vN X) w a n c b) (hL : Rw gL w #[.slice a n c] 27) (hlen : ns.length + 1 ≤ 7600000000000) :
    ∃ v' w', (∀ ty, (Builtin.append_ #[41, 41] ty #[vN, .slice (some ⟨gL, 0, none⟩) 1 1]).run Tryz.prog w = .ok v' w') ∧ (∀ w2, Set1 w' w2 gW 0 v' → Wt w2 gW base v' X (ns ++ [b]) ∧ Wg w w2 gW vN v') ∧ Rw gW w' #[vN] 81 ∧ v'.cells = #[v'] ∧ v'.oneCell' = true := by
  obtain ⟨i, hi, hz, hsz, hby⟩ := infoB
  have hap := hW.apart
  have hlt := hW.lt
  have hbw := hW.b
  have hr := hW.r
  obtain ⟨vals, hown, hvl, hvs⟩ := hW.o
  obtain ⟨v', w', h1, h2, h3, _, h5⟩ := app_at_wide w base 41 0 27 i (.slice none 0 0) 1 24 Tryz.underlying41 hi hz hsz hby rfl (by decide) vN ns.length vals hown ⟨gL, 0, none⟩ 1 1 [.slice a n c] rfl (fun j u hu => by
      cases j with
      | zero => rw [addr_add, cell_of_row _ _ _ _ _ _ hL]; exact hu
      | succ j => simp at hu) (fun u hu => by rw [List.mem_singleton.1 hu]; rfl) (by decide) (by unfold maxLen; omega) (by omega) (by omega)
  have hrW : Rw gW w' #[vN] 81 := (h3.block gW hlt.1 (fun e => hap e.symm)).trans hr
  have hva : v'.ownBlock ≠ some gW := by
    rcases h5 with e | e
    · rw [e]; exact hap
    · rw [e]; intro q; simp at q; omega
  refine ⟨v', w', fun ty => h1, fun w2 hp => ?_, hrW, ?_, ?_⟩
  · have hg : Wg w w2 gW vN v' := by
      have ht := hp.touch
      refine ⟨ht.os.trans h3.os, ht.tape.trans h3.tape, ht.output.trans h3.output, Nat.le_trans h3.size ht.size, fun k hk hg hv => (hp.other hg).trans (h3.block k hk (fun e => hv e.symm)), ?_⟩
      rcases h5 with e | e
      · exact .inl e
      · exact .inr (fun k hk => by rw [e] at hk; simp at hk; omega)
    refine ⟨⟨hrW.set hp rfl, ⟨vals ++ [.slice a n c], ?_, ?_, ?_⟩, hbw⟩, hg⟩
    · rw [List.length_append, List.length_singleton]
      refine ⟨h2.1, ?_⟩
      rcases h2.2 with q | ⟨g, cap, cur, e1, e2, e3, e4⟩
      · exact .inl q
      · refine .inr ⟨g, cap, cur, e1, e2, (hp.other ?_).trans e3, e4⟩
        rintro rfl
        exact hva (by rw [e1]; rfl)
    · rw [List.length_append, List.length_append, hvl]; rfl
    · intro j u hu
      by_cases hj : j < vals.length
      · rw [List.getElem?_append_left hj] at hu
        obtain ⟨a1, n1, c1, e1, hs1⟩ := hvs j u hu
        refine ⟨a1, n1, c1, e1, ?_⟩
        have e : (ns ++ [b]).getD j [] = ns.getD j [] := by rw [List.getD, List.getD, List.getElem?_append_left (by omega)]
        rw [e]
        exact hs1.wg hg
      · have hj2 : j = vals.length := by
          have := (List.getElem?_eq_some_iff.1 hu).1
          rw [List.length_append, List.length_singleton] at this
          omega
        subst hj2
        rw [List.getElem?_append_right (Nat.le_refl _), Nat.sub_self] at hu
        simp at hu
        refine ⟨a, n, c, hu.symm, ?_⟩
        have e : (ns ++ [b]).getD vals.length [] = b := by rw [List.getD, hvl, List.getElem?_append_right (Nat.le_refl _), Nat.sub_self]; rfl
        rw [e]
        exact hs.wg hg
  · rcases h2.2 with ⟨rfl, _⟩ | ⟨g, cap, cur, rfl, _⟩ <;> rfl
  · rcases h2.2 with ⟨rfl, _⟩ | ⟨g, cap, cur, rfl, _⟩ <;> rfl
theorem ol_build {P : Program} {ρ : Operand → Value} {w : World} {o : Oper} (t : TypeId) (parts : Array (Nat × Operand)) (l : List (Nat × Value)) (cells : Array Value) (ho : o.op = .build t parts) (hl : (parts.map fun (i, x) => (i, ρ x)).toList = l) (hf : P.built t l = some cells) : (execOp ρ o).run P w = .ok (.value (.agg cells)) w := by
  unfold execOp
  rw [ho]
  have := run_build (P := P) w t (parts.map fun (i, x) => (i, ρ x)) cells (by rw [hl]; exact hf)
  simp only [Sem.run_bind, this, Result.andThen_ok, Sem.run_pure]
theorem n_size {y : NV} (h : y.c.d.length = 32) : y.cells.toArray.size = 38 := by rw [List.size_toArray, NV.len h]
theorem results_n {fn : Func} {p : Tmp} {f : Nat → Value} (h : fn.results = #[.cell p 92]) (w : World) (g : Nat) (y : NV) (hl : y.c.d.length = 32) (hp : f p = .pointer (some ⟨g, 0, none⟩)) (hg : Rw g w y.cells.toArray 92) : (resF f fn.results).run Tryz.prog w = .ok (.agg y.cells.toArray) w := by
  have := run_loadVar_row (P := Tryz.prog) w g 92 92 _ _ _ hg Tryz.underlying92 rfl (by rw [infoN, n_size hl])
  unfold resF
  rw [h]
  simp [hp, this, asAddr]
theorem Sk.agk {K : Nat → Prop} {w : World} {a : Option Addr} {n c : Nat} {bs : List Int} (h : Sk K w a n c bs) (hn : n ≤ 140737488351232) : AgK (fun _ => True) w a n c bs := ⟨h.ag, hn, fun _ _ _ _ => trivial⟩
/-- What is told: a node; an encoding. -/
def RNd (w : World) (gW base : Nat) (vN : Value) (X : Nat → Prop) (ns : List (List Int)) (t : Tr) : Value → World → Prop := fun u w' => ∃ (y : NV) (vN' : Value), u = .agg y.cells.toArray ∧ NodeAt (fun _ => True) w' y (nodeP t) ∧ Wt w' gW base vN' X (ns ++ nmd t) ∧ Wg w w' gW vN vN'
def REn (w : World) (gW base : Nat) (vN : Value) (X : Nat → Prop) (ns : List (List Int)) (t : Tr) : Value → World → Prop := fun u w' => ∃ (a : Option Addr) (n c : Nat) (vN' : Value), u = .slice a n c ∧ Sk (KW gW vN' (fun b => w.heap.size ≤ b)) w' a n c (encT t) ∧ Wt w' gW base vN' X (ns ++ nmd t) ∧ Wg w w' gW vN vN' ∧ (encT t).length ≤ 65540
theorem Wt.mono {X Y : Nat → Prop} {w : World} {gW base : Nat} {vN : Value} {ns : List (List Int)} (h : Wt w gW base vN X ns) (hX : ∀ b, b < w.heap.size → X b → Y b) : Wt w gW base vN Y ns := by
  obtain ⟨vals, h1, h2, h3⟩ := h.o
  refine ⟨h.r, ⟨vals, h1, h2, fun j v hj => ?_⟩, h.b⟩
  obtain ⟨a, n, c, e, hs⟩ := h3 j v hj
  exact ⟨a, n, c, e, hs.ag, fun x hx hn => by have hk := hs.k x hx hn; exact ⟨hk.1, hk.2.1, hX _ (hs.old hx hn) hk.2.2⟩⟩
/-- Bytes in new blocks are no writer's. -/
theorem Sk.fresh {K : Nat → Prop} {w v w' : World} {gW base : Nat} {X : Nat → Prop} {vN : Value} {ns : List (List Int)} {a : Option Addr} {n c : Nat} {bs : List Int} (h : Sk (fun b => v.heap.size ≤ b) w' a n c bs) (hw : Wt v gW base vN X ns) (hs : w.heap.size ≤ v.heap.size) : Sk (KW gW vN (fun b => w.heap.size ≤ b)) w' a n c bs :=
  h.mono (fun b hb => ⟨fun e => by have := hw.lt.1; omega, fun e => by have := hw.lt.2 b e; omega, Nat.le_trans hs hb⟩)
end Go.Proofs.YtalhnnjpjaeakaaGreat
/- How many nodes a tree has: a Put adds three at most; no more are named than there are. -/
namespace Go.Proofs.YtalhnnjpjaeakaaGreat
set_option linter.unusedVariables false
namespace Tr
def sz : Tr → Nat
  | no => 0
  | leaf _ _ => 1
  | ext _ c => sz c + 1
  | br k _ => ((List.range 16).map fun i => sz (k i)).sum + 1
theorem sz_upd (k : Nat → Tr) (i : Nat) (t : Tr) (m : Nat) (h : sz t ≤ sz (k i) + m) : ∀ n, ((List.range n).map fun j => sz (upd k i t j)).sum ≤ ((List.range n).map fun j => sz (k j)).sum + (if i < n then m else 0)
  | 0 => by simp
  | n + 1 => by
    have ih := sz_upd k i t m h n
    rw [List.range_succ, List.map_append, List.map_append, List.sum_append, List.sum_append]
    simp only [List.map_cons, List.map_nil, List.sum_cons, List.sum_nil, Nat.add_zero]
    by_cases e : n = i
    · subst e
      rw [upd_same, if_pos (by omega)]
      rw [if_neg (by omega)] at ih
      omega
    · rw [upd_other k t e]
      by_cases h2 : i < n
      · rw [if_pos (by omega)]; rw [if_pos h2] at ih; omega
      · rw [if_neg (by omega)]; rw [if_neg h2] at ih; omega
theorem sz_updB (k : Nat → Tr) (i : Nat) (t : Tr) (m : Nat) (x y : List Int) (h : sz t ≤ sz (k i) + m) : sz (br (upd k i t) x) ≤ sz (br k y) + m := by
  have := sz_upd k i t m h 16
  simp only [sz]
  split at this <;> omega
theorem sz_und (p : List Int) (t : Tr) : sz (und p t) ≤ sz t + 1 := by
  cases t with
  | no => simp [und, sz]
  | leaf q v => simp [und, sz]
  | ext q c => simp [und, sz]
  | br k v =>
    simp only [und]
    split
    · omega
    · simp only [sz]; omega
theorem sz_add (k : Nat → Tr) (x q v : List Int) : sz (add k x q v) ≤ sz (br k x) + 1 := by
  cases q with
  | nil => simp only [add, sz]; omega
  | cons i r => exact sz_updB k i.toNat (leaf r v) 1 x x (by simp only [sz]; omega)
theorem sz_addT (t : Tr) (q v : List Int) : sz (addT t q v) ≤ sz t + 1 := by
  cases t with
  | br k x => exact sz_add k x q v
  | no => simp [addT]
  | leaf p x => simp [addT]
  | ext p c => simp [addT]
theorem sz_nk (x : List Int) : sz (br nk x) = 1 := by
  simp only [sz]
  have : ((List.range 16).map fun i => sz (nk i)) = (List.range 16).map fun _ => 0 := by simp [nk, sz]
  rw [this]; rfl
theorem sz_put : ∀ (t : Tr) (q v : List Int), sz (put t q v) ≤ sz t + 3 := by
  intro t
  induction t with
  | no => intro q v; simp [put, sz]
  | leaf p x =>
    intro q v
    simp only [put]
    split
    · simp [sz]
    · have h1 := sz_und (q.take (Ni.com p q)) (addT (add nk [] (p.drop (Ni.com p q)) x) (q.drop (Ni.com p q)) v)
      have h2 := sz_addT (add nk [] (p.drop (Ni.com p q)) x) (q.drop (Ni.com p q)) v
      have h3 := sz_add nk [] (p.drop (Ni.com p q)) x
      have h4 := sz_nk []
      have h5 : sz (leaf p x) = 1 := rfl
      omega
  | ext p c ih =>
    intro q v
    simp only [put]
    split
    · have := ih (q.drop p.length) v
      simp only [sz]; omega
    · have h1 := sz_und (q.take (Ni.com p q)) (add (upd nk (p.getD (Ni.com p q) 0).toNat (und (p.drop (Ni.com p q + 1)) c)) [] (q.drop (Ni.com p q)) v)
      have h2 := sz_add (upd nk (p.getD (Ni.com p q) 0).toNat (und (p.drop (Ni.com p q + 1)) c)) [] (q.drop (Ni.com p q)) v
      have h3 := sz_updB nk (p.getD (Ni.com p q) 0).toNat (und (p.drop (Ni.com p q + 1)) c) (sz c + 1) [] [] (by have := sz_und (p.drop (Ni.com p q + 1)) c; omega)
      have h4 := sz_nk []
      have h5 : sz (ext p c) = sz c + 1 := rfl
      omega
  | br k x ih =>
    intro q v
    cases q with
    | nil => simp [put, sz]
    | cons i r => exact sz_updB k i.toNat (put (k i.toNat) r v) 3 x x (ih i.toNat r v)
theorem sum_le (f g : Nat → Nat) (h : ∀ i, f i ≤ g i) : ∀ l : List Nat, (l.map f).sum ≤ (l.map g).sum
  | [] => Nat.le_refl _
  | a :: l => by simp only [List.map_cons, List.sum_cons]; have := h a; have := sum_le f g h l; omega
theorem nm1_len (b : List Int) : (nm1 b).length ≤ 1 := by unfold nm1; split <;> simp
theorem nmd_len : ∀ t : Tr, (nmd t).length + (if t.isNo then 0 else 1) ≤ sz t := by
  intro t
  induction t with
  | no => simp [nmd, isNo, sz]
  | leaf p x => simp [nmd, isNo, sz]
  | ext p c ih =>
    simp only [nmd, isNo, sz, List.length_append, Bool.false_eq_true, if_false]
    have h1 := nm1_len (encT c)
    by_cases hc : c.isNo = true
    · rw [if_pos hc] at ih
      cases c with
      | no => simp [encT, nm1, nmd, sz]
      | leaf p x => simp [isNo] at hc
      | ext p x => simp [isNo] at hc
      | br p x => simp [isNo] at hc
    · rw [if_neg hc] at ih; omega
  | br k x ih =>
    rw [show (br k x).isNo = false from rfl]
    simp only [nmd, sz, Bool.false_eq_true, if_false, List.length_flatMap]
    have := sum_le (fun i => (if (k i).isNo then [] else nmd (k i) ++ nm1 (encT (k i))).length) (fun i => sz (k i)) (fun i => by
      have h1 := nm1_len (encT (k i))
      have h2 := ih i
      by_cases hc : (k i).isNo = true
      · simp [hc]
      · rw [if_neg hc] at h2
        simp only [hc, Bool.false_eq_true, if_false, List.length_append]
        omega) (List.range 16)
    omega
theorem nmd_le (t : Tr) : (nmd t).length ≤ sz t := by have := nmd_len t; omega
end Tr
open Tr
theorem sz_putT (t : Tr) (k x : List Int) : Tr.sz (putT t k x) ≤ Tr.sz t + 3 := by
  unfold putT
  split
  · exact sz_put _ _ _
  · omega
end Go.Proofs.YtalhnnjpjaeakaaGreat
/- The keys and values alone say the tree. -/
namespace Go.Proofs.YtalhnnjpjaeakaaGreat
set_option linter.unusedVariables false
namespace Tr
theorem Ok.kid {B : Nat} {k : Nat → Tr} {x : List Int} (h : Ok B (br k x)) {i : Nat} (hi : k i ≠ no) : ∃ q, Nb (((i : Nat) : Int) :: q) ∧ get (br k x) (((i : Nat) : Int) :: q) ≠ [] := by
  rcases h.1 i with h0 | ⟨h1, _, h3⟩
  · exact absurd h0 hi
  · obtain ⟨q, k1, _, k3⟩ := h3.some
    refine ⟨q, fun j hj => ?_, k3⟩
    rcases List.mem_cons.1 hj with rfl | hj
    · omega
    · exact k1 j hj
/-- Not all keys of a branch begin alike. -/
theorem Ok.spread {B : Nat} {k : Nat → Tr} {x : List Int} (h : Ok B (br k x)) (i : Int) : ∃ q, Nb q ∧ get (br k x) q ≠ [] ∧ ∀ r, q ≠ i :: r := by
  rcases h.2 with ⟨a, b, hab, ha, hb⟩ | ⟨hx, _⟩
  · by_cases e : ((a : Nat) : Int) = i
    · obtain ⟨q, h1, h2⟩ := h.kid hb
      exact ⟨_, h1, h2, fun r er => by injection er with er _; omega⟩
    · obtain ⟨q, h1, h2⟩ := h.kid ha
      exact ⟨_, h1, h2, fun r er => by injection er with er _; exact e er⟩
  · exact ⟨[], (fun j hj => by cases hj), hx, (fun r er => by cases er)⟩
/-- A branch has another key. -/
theorem Ok.another {B : Nat} {k : Nat → Tr} {x : List Int} (h : Ok B (br k x)) (p : List Int) : ∃ q, Nb q ∧ q ≠ p ∧ get (br k x) q ≠ [] := by
  cases p with
  | nil =>
    have : ∃ i, k i ≠ no := by
      rcases h.2 with ⟨i, _, _, h, _⟩ | ⟨_, i, h⟩ <;> exact ⟨i, h⟩
    obtain ⟨i, hi⟩ := this
    obtain ⟨q, h1, h2⟩ := h.kid hi
    exact ⟨_, h1, by simp, h2⟩
  | cons i r =>
    obtain ⟨q, h1, h2, h3⟩ := h.spread i
    exact ⟨q, h1, h3 r, h2⟩
theorem isBr_iff {t : Tr} (h : t.isBr = true) : ∃ k x, t = br k x := by
  cases t with
  | br k x => exact ⟨k, x, rfl⟩
  | no => simp [isBr] at h
  | leaf p v => simp [isBr] at h
  | ext p c => simp [isBr] at h
/-- Two extensions of the same keys have the same path: the shorter one is no proper beginning. -/
theorem ext_path {B C : Nat} {p p' : List Int} {k k' : Nat → Tr} {x x' : List Int} (hp : Nb p) (hp' : Nb p') (h : Ok B (br k x)) (h' : Ok C (br k' x')) (hg : ∀ q, Nb q → get (ext p (br k x)) q = get (ext p' (br k' x')) q) (hl : p.length ≤ p'.length) : p = p' := by
  have key : ∀ q, Nb q → get (br k x) q ≠ [] → ∃ s, p ++ q = p' ++ s := by
    intro q hq hne
    have e := hg (p ++ q) (hp.app hq)
    rw [get_ext] at e
    by_cases hs : ∃ s, p ++ q = p' ++ s
    · exact hs
    · rw [get_ext_no p' _ _ hs] at e
      exact absurd e hne
  obtain ⟨q0, h1, h2⟩ : ∃ q, Nb q ∧ get (br k x) q ≠ [] := by obtain ⟨q, h1, _, h2⟩ := h.another []; exact ⟨q, h1, h2⟩
  obtain ⟨s0, e0⟩ := key q0 h1 h2
  have ep : p = p'.take p.length := by
    have := congrArg (List.take p.length) e0
    rw [List.take_left, List.take_append_of_le_length hl] at this
    exact this
  rcases Nat.lt_or_ge p.length p'.length with hlt | hge
  · exfalso
    obtain ⟨i, r, er⟩ : ∃ i r, p'.drop p.length = i :: r := by
      cases hd : p'.drop p.length with
      | nil => have := congrArg List.length hd; simp at this; omega
      | cons i r => exact ⟨i, r, rfl⟩
    have e' : p' = p ++ (i :: r) := by
      conv => lhs; rw [← List.take_append_drop p.length p', ← ep, er]
    obtain ⟨q, g1, g2, g3⟩ := h.spread i
    obtain ⟨s, es⟩ := key q g1 g2
    rw [e', List.append_assoc] at es
    have := List.append_cancel_left es
    exact g3 _ this
  · rw [ep, List.take_of_length_le hge]
theorem Ok.uniq : ∀ {t s : Tr} {B C : Nat}, Ok B t → Ok C s → (∀ q, Nb q → get t q = get s q) → t = s := by
  intro t
  induction t with
  | no => intro s B C h; exact h.elim
  | leaf p v =>
    intro s B C h h' hg
    cases s with
    | no => exact h'.elim
    | leaf p' v' =>
      have e := hg p h.1
      simp only [get] at e
      by_cases hp : p = p'
      · subst hp
        simp at e
        rw [e]
      · rw [if_neg hp] at e
        simp at e
        exact absurd e h.2.2
    | ext p' c =>
      exfalso
      obtain ⟨k, x, rfl⟩ := isBr_iff h'.2.2.2.1
      obtain ⟨q, h1, h2, h3⟩ := h'.2.2.2.2.another (p.drop p'.length)
      have e := hg (p' ++ q) (h'.1.app h1)
      rw [get_ext] at e
      simp only [get] at e
      by_cases hp : p' ++ q = p
      · exact h2 (by rw [← hp]; simp)
      · rw [if_neg hp] at e
        exact h3 e.symm
    | br k x =>
      exfalso
      obtain ⟨q, h1, h2, h3⟩ := Ok.another h' p
      have e := hg q h1
      simp only [get] at e
      rw [if_neg h2] at e
      exact h3 e.symm
  | ext p c ih =>
    intro s B C h h' hg
    obtain ⟨k, x, rfl⟩ := isBr_iff h.2.2.2.1
    cases s with
    | no => exact h'.elim
    | leaf p' v' =>
      exfalso
      obtain ⟨q, h1, h2, h3⟩ := h.2.2.2.2.another (p'.drop p.length)
      have e := hg (p ++ q) (h.1.app h1)
      rw [get_ext] at e
      simp only [get] at e
      by_cases hp : p ++ q = p'
      · exact h2 (by rw [← hp]; simp)
      · rw [if_neg hp] at e
        exact h3 e
    | ext p' c' =>
      obtain ⟨k', x', rfl⟩ := isBr_iff h'.2.2.2.1
      have ep : p = p' := by
        rcases Nat.le_total p.length p'.length with hl | hl
        · exact ext_path h.1 h'.1 h.2.2.2.2 h'.2.2.2.2 hg hl
        · exact (ext_path h'.1 h.1 h'.2.2.2.2 h.2.2.2.2 (fun q hq => (hg q hq).symm) hl).symm
      subst ep
      congr 1
      exact ih h.2.2.2.2 h'.2.2.2.2 (fun q hq => by
        have e := hg (p ++ q) (h.1.app hq)
        rw [get_ext, get_ext] at e
        exact e)
    | br k' x' =>
      exfalso
      cases p with
      | nil => exact h.2.1 rfl
      | cons i r =>
        obtain ⟨q, h1, h2, h3⟩ := Ok.spread h' i
        have e := hg q h1
        rw [get_ext_no _ _ _ (fun ⟨s, es⟩ => h3 _ es)] at e
        exact h2 e.symm
  | br k x ih =>
    intro s B C h h' hg
    cases s with
    | no => exact h'.elim
    | leaf p' v' =>
      exfalso
      obtain ⟨q, h1, h2, h3⟩ := Ok.another h p'
      have e := hg q h1
      rw [show get (leaf p' v') q = [] from by simp only [get]; rw [if_neg h2]] at e
      exact h3 e
    | ext p' c' =>
      exfalso
      cases p' with
      | nil => exact h'.2.1 rfl
      | cons i r =>
        obtain ⟨q, h1, h2, h3⟩ := Ok.spread h i
        have e := hg q h1
        rw [get_ext_no _ _ _ (fun ⟨s, es⟩ => h3 _ es)] at e
        exact h2 e
    | br k' x' =>
      have ex : x = x' := hg [] (fun j hj => by cases hj)
      have ek : k = k' := by
        funext i
        have hgi : i < 16 → ∀ r, Nb r → get (k i) r = get (k' i) r := fun hi r hr => hg (((i : Nat) : Int) :: r) (fun j hj => by
          rcases List.mem_cons.1 hj with rfl | hj
          · omega
          · exact hr j hj)
        rcases h.1 i with h0 | ⟨h1, _, h3⟩
        · rcases h'.1 i with g0 | ⟨g1, _, g3⟩
          · rw [h0, g0]
          · obtain ⟨q, q1, _, q3⟩ := g3.some
            have := hgi g1 q q1
            rw [h0] at this
            exact absurd this.symm q3
        · rcases h'.1 i with g0 | ⟨g1, _, g3⟩
          · obtain ⟨q, q1, _, q3⟩ := h3.some
            have := hgi h1 q q1
            rw [g0] at this
            exact absurd this q3
          · exact ih i h3 g3 (hgi h1)
      rw [ex, ek]
end Tr
end Go.Proofs.YtalhnnjpjaeakaaGreat
/- A Put and a Delete take each other back. -/
namespace Go.Proofs.YtalhnnjpjaeakaaGreat
set_option linter.unusedVariables false
namespace Tr
end Tr
end Go.Proofs.YtalhnnjpjaeakaaGreat

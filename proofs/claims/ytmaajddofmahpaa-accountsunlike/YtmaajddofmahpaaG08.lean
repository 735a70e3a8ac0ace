/- What bodyAt answers. -/
import Derived.Test.YtmaajddofmahpaaG07
import Derived.Test.YtmaajddofmahpaaG06
namespace Go.Proofs.Ytmaajddofmahpaa
open Go.RowKit
set_option linter.unusedVariables false
end Go.Proofs.Ytmaajddofmahpaa
/- Items that a call makes: in blocks of its own; a row of them that grows; what Text answers. -/
namespace Go.Proofs.Ytmaajddofmahpaa
open Go.RowKit
set_option linter.unusedVariables false
mutual
/-- An item lies in memory, in blocks of which P holds. -/
def LiesP (P : Nat → Prop) (w : World) : T → V → Prop
  | .mk l bs its, x => (x.l = l ∧ Ag w x.ba x.bn x.bc bs ∧ x.m = its.length ∧ x.m ≤ x.ic ∧ x.ic ≤ maxLen ∧ (x.bn ≤ 140737488351232 ∧ x.m ≤ 140737488351232) ∧ (∀ g off, x.ba = some ⟨g, off, none⟩ → 0 < x.bn → P g ∧ ∀ o, w.frozen? ⟨g, o, none⟩ = false)) ∧ LiesPAll P w its x.ia 0
def LiesPAll (P : Nat → Prop) (w : World) : List T → Option Addr → Nat → Prop
  | [], _, _ => True
  | t :: r, a, k => (∃ g off y, (a = some ⟨g, off, none⟩ ∧ P g) ∧ w.cell? ⟨g, off + k * 3, none⟩ = some (.bool y.l) ∧ w.cell? ⟨g, off + k * 3 + 1, none⟩ = some (.slice y.ba y.bn y.bc) ∧ w.cell? ⟨g, off + k * 3 + 2, none⟩ = some (.slice y.ia y.m y.ic) ∧ LiesP P w t y) ∧ LiesPAll P w r a (k + 1)
end
theorem liesP_eq {P : Nat → Prop} {w : World} {l : Bool} {bs : List Int} {its : List T} {x : V} : LiesP P w (.mk l bs its) x ↔ ((x.l = l ∧ Ag w x.ba x.bn x.bc bs ∧ x.m = its.length ∧ x.m ≤ x.ic ∧ x.ic ≤ maxLen ∧ (x.bn ≤ 140737488351232 ∧ x.m ≤ 140737488351232) ∧ (∀ g off, x.ba = some ⟨g, off, none⟩ → 0 < x.bn → P g ∧ ∀ o, w.frozen? ⟨g, o, none⟩ = false)) ∧ LiesPAll P w its x.ia 0) := by rw [LiesP]
theorem liesPAll_cons {P : Nat → Prop} {w : World} {t : T} {r : List T} {a : Option Addr} {k : Nat} : LiesPAll P w (t :: r) a k ↔ ((∃ g off y, (a = some ⟨g, off, none⟩ ∧ P g) ∧ w.cell? ⟨g, off + k * 3, none⟩ = some (.bool y.l) ∧ w.cell? ⟨g, off + k * 3 + 1, none⟩ = some (.slice y.ba y.bn y.bc) ∧ w.cell? ⟨g, off + k * 3 + 2, none⟩ = some (.slice y.ia y.m y.ic) ∧ LiesP P w t y) ∧ LiesPAll P w r a (k + 1)) := by rw [LiesPAll]
theorem liesPAll_nil {P : Nat → Prop} {w : World} {a : Option Addr} {k : Nat} : LiesPAll P w [] a k := by rw [LiesPAll]; trivial
theorem liesPAll_lies {P : Nat → Prop} {w : World} {a : Option Addr} : ∀ {its : List T} {k : Nat}, (∀ t ∈ its, ∀ x, LiesP P w t x → Lies w t x) → LiesPAll P w its a k → LiesAll w its a k
  | [], _, _, _ => liesAll_nil
  | t :: r, k, ih, h => by
    obtain ⟨⟨g, off, y, ⟨h1, _⟩, h2, h3, h4, h5⟩, hr⟩ := liesPAll_cons.1 h
    exact liesAll_cons.2 ⟨⟨g, off, y, h1, h2, h3, h4, ih t (List.mem_cons_self ..) y h5⟩, liesPAll_lies (fun u hu => ih u (List.mem_cons_of_mem _ hu)) hr⟩
theorem liesP_lies {P : Nat → Prop} {w : World} : ∀ t, ∀ x, LiesP P w t x → Lies w t x := by
  refine T.ind fun l bs its ih x h => ?_
  obtain ⟨⟨h1, h2, h3, h4, h5, h6, _⟩, h7⟩ := liesP_eq.1 h
  exact lies_eq.2 ⟨h1, h2, h3, h4, h5, h6, liesPAll_lies ih h7⟩
theorem ag_keep {w w' : World} {a : Option Addr} {n c : Nat} {bs : List Int} (h : Ag w a n c bs) (hk : ∀ g off, a = some ⟨g, off, none⟩ → 0 < n → g < w.heap.size → w'.heap[g]? = w.heap[g]?) : Ag w' a n c bs := by
  refine ⟨?_, h.nil, h.l, h.b⟩
  rcases h.i with h0 | ⟨g, off, h1, h2, h3, h4, h5, h6⟩
  · exact .inl h0
  · refine .inr ⟨g, off, h1, h2, h3, h4, h5, fun j hj => ?_⟩
    have := h6 j hj
    exact (World.cell?_of_block (w := w) (hk g off h1 h3 (block_lt_of_cell this))).trans this
theorem liesPAll_mono {P Q : Nat → Prop} {w w' : World} {a : Option Addr} (hk : ∀ b, P b → b < w.heap.size → w'.heap[b]? = w.heap[b]? ∧ Q b) : ∀ {its : List T} {k : Nat}, (∀ t ∈ its, ∀ x, LiesP P w t x → LiesP Q w' t x) → LiesPAll P w its a k → LiesPAll Q w' its a k
  | [], _, _, _ => liesPAll_nil
  | t :: r, k, ih, h => by
    obtain ⟨⟨g, off, y, ⟨h1, hp⟩, h2, h3, h4, h5⟩, hr⟩ := liesPAll_cons.1 h
    have hb := hk g hp (block_lt_of_cell h2)
    refine liesPAll_cons.2 ⟨⟨g, off, y, ⟨h1, hb.2⟩, ?_, ?_, ?_, ih t (List.mem_cons_self ..) y h5⟩, liesPAll_mono hk (fun u hu => ih u (List.mem_cons_of_mem _ hu)) hr⟩
    · exact (World.cell?_of_block (w := w) hb.1).trans h2
    · exact (World.cell?_of_block (w := w) hb.1).trans h3
    · exact (World.cell?_of_block (w := w) hb.1).trans h4
theorem liesP_mono {P Q : Nat → Prop} {w w' : World} (hk : ∀ b, P b → b < w.heap.size → w'.heap[b]? = w.heap[b]? ∧ Q b) : ∀ t, ∀ x, LiesP P w t x → LiesP Q w' t x := by
  refine T.ind fun l bs its ih x h => ?_
  obtain ⟨⟨h1, h2, h3, h4, h5, h6, h8⟩, h7⟩ := liesP_eq.1 h
  refine liesP_eq.2 ⟨⟨h1, ag_keep h2 (fun g off e1 e2 e3 => (hk g (h8 g off e1 e2).1 e3).1), h3, h4, h5, h6, fun g off e1 e2 => ?_⟩, liesPAll_mono hk ih h7⟩
  obtain ⟨g', off', e3, _, _, hc⟩ := ag_head h2 e2
  rw [e1] at e3
  cases e3
  have hkk := hk g (h8 g off e1 e2).1 (block_lt_of_cell (hc 0 e2))
  exact ⟨hkk.2, fun o => (World.frozen?_of_block (w := w) hkk.1).trans ((h8 g off e1 e2).2 o)⟩
/-- The cells of an item. -/
def V.cells (y : V) : List Value := [.bool y.l, .slice y.ba y.bn y.bc, .slice y.ia y.m y.ic]
/-- A row of items of the call's own, from block 'base' on. -/
def OwnI (w : World) (base : Nat) (v : Value) (ys : List V) : Prop := w.ownsRow base 46 3 v ys.length (ys.flatMap V.cells)
theorem flat_len (ys : List V) : (ys.flatMap V.cells).length = ys.length * 3 := by
  induction ys with
  | nil => rfl
  | cons y r ih => rw [List.flatMap_cons, List.length_append, ih]; simp [V.cells]; omega
theorem infoI : ∃ i, Try.prog.info? 46 = some i ∧ i.zero = some (.agg #[.bool false, .slice none 0 0, .slice none 0 0]) ∧ i.size = 3 ∧ i.bytes = 56 := by
  have h : (Try.prog.info? 46).map (fun i => (i.zero, i.size, i.bytes)) = some (some (.agg #[.bool false, .slice none 0 0, .slice none 0 0]), 3, 56) := by kernel_rfl
  cases hq : Try.prog.info? 46 with
  | none => rw [hq] at h; simp at h
  | some i => rw [hq] at h; simp at h; exact ⟨i, rfl, h.1, h.2.1, h.2.2⟩
theorem cells_one (y : V) : ∀ u ∈ V.cells y, u.oneCell' = true := by
  intro u hu
  simp [V.cells] at hu
  rcases hu with rfl | rfl | rfl <;> rfl
end Go.Proofs.Ytmaajddofmahpaa

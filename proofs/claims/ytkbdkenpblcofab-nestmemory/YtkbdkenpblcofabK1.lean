/- Writing over an item's bytes in place: what stays. -/
import Derived.Test.YtkbdkenpblcofabX1
namespace Go.Proofs.Ytkbdkenpblcofab
open Go.RowKit
set_option linter.unusedVariables false
mutual
def dep : T → Nat
  | .mk _ _ its => deps its + 1
def deps : List T → Nat
  | [] => 0
  | t :: r => max (dep t) (deps r)
end
theorem dep_eq (l : Bool) (bs : List Int) (its : List T) : dep (.mk l bs its) = deps its + 1 := by rw [dep]
theorem deps_cons (t : T) (r : List T) : deps (t :: r) = max (dep t) (deps r) := by rw [deps]
theorem dep_mem : ∀ {its : List T} {t : T}, t ∈ its → dep t ≤ deps its
  | x :: r, t, h => by
    rw [deps_cons]
    rcases List.mem_cons.1 h with rfl | h
    · omega
    · have := dep_mem h; omega
/-- A byte is written over a byte: bytes lie there as before, but for that one. -/
theorem ag_write {w : World} {a : Option Addr} {n c : Nat} {bs : List Int} (h : Ag w a n c bs) {g o : Nat} {z : Int} (hz : 0 ≤ z ∧ z < 256) : ∃ bs', Ag (w.setCell ⟨g, o, none⟩ (.int .u8 z)) a n c bs' := by
  rcases h.i with ⟨h0, h1⟩ | ⟨g', off, h1, h2, h3, h4, h5, h6⟩
  · exact ⟨bs, ⟨.inl ⟨h0, h1⟩, h.nil, h.l, h.b⟩⟩
  · refine ⟨(List.range n).map (fun j => if g' = g ∧ off + j = o then z else bs.getD j 0), ⟨.inr ⟨g', off, h1, by simp, h3, h4, h5, fun j hj => ?_⟩, h.nil, by simp, fun x hx => ?_⟩⟩
    · have hj' : j < n := by simpa using hj
      have hc := h6 j (by omega)
      have e : ((List.range n).map (fun j => if g' = g ∧ off + j = o then z else bs.getD j 0)).getD j 0 = if g' = g ∧ off + j = o then z else bs.getD j 0 := by
        rw [List.getD, List.getElem?_map, List.getElem?_range hj']; rfl
      rw [e]
      by_cases hh : g' = g ∧ off + j = o
      · obtain ⟨rfl, rfl⟩ := hh
        rw [if_pos ⟨rfl, rfl⟩]
        exact World.cell?_setCell_same _ _ _ hc
      · rw [if_neg hh, World.cell?_setCell_other _ _ _ _ (fun e => hh (by injection e with e1 e2; exact ⟨e1.symm, e2.symm⟩))]
        exact hc
    · obtain ⟨j, hj, rfl⟩ := List.mem_map.1 hx
      have hj' : j < n := by simpa using hj
      split
      · exact hz
      · exact h.b _ (by rw [List.getD, List.getElem?_eq_getElem (by omega)]; exact List.getElem_mem _)
theorem liesPAll_write {P : Nat → Prop} {w : World} {g o : Nat} {z0 z : Int} (hold : w.cell? ⟨g, o, none⟩ = some (.int .u8 z0)) {a : Option Addr} : ∀ {its : List T} {k : Nat}, (∀ t ∈ its, ∀ x, LiesP P w t x → ∃ t', dep t' = dep t ∧ LiesP P (w.setCell ⟨g, o, none⟩ (.int .u8 z)) t' x) → LiesPAll P w its a k → ∃ its', its'.length = its.length ∧ deps its' = deps its ∧ LiesPAll P (w.setCell ⟨g, o, none⟩ (.int .u8 z)) its' a k
  | [], _, _, _ => ⟨[], rfl, rfl, liesPAll_nil⟩
  | t :: r, k, ih, h => by
    obtain ⟨⟨g', off, y, h1, h2, h3, h4, h5⟩, hr⟩ := liesPAll_cons.1 h
    obtain ⟨r', e1, e2, e3⟩ := liesPAll_write hold (fun u hu => ih u (List.mem_cons_of_mem _ hu)) hr
    obtain ⟨t', f1, f2⟩ := ih t (List.mem_cons_self ..) y h5
    have hne : ∀ (p : Addr) (v : Value), w.cell? p = some v → (∀ n, v ≠ .int .u8 n) → (w.setCell ⟨g, o, none⟩ (.int .u8 z)).cell? p = some v := fun p v hp hv => by
      rw [World.cell?_setCell_other _ _ _ _ (fun e => by rw [← e, hold] at hp; exact hv _ (Option.some.inj hp).symm)]
      exact hp
    exact ⟨t' :: r', by simp [e1], by rw [deps_cons, deps_cons, e2, f1], liesPAll_cons.2 ⟨⟨g', off, y, h1, hne _ _ h2 (fun n e => by cases e), hne _ _ h3 (fun n e => by cases e), hne _ _ h4 (fun n e => by cases e), f2⟩, e3⟩⟩
theorem liesP_write {P : Nat → Prop} {w : World} {g o : Nat} {z0 z : Int} (hold : w.cell? ⟨g, o, none⟩ = some (.int .u8 z0)) (hz : 0 ≤ z ∧ z < 256) : ∀ t, ∀ x, LiesP P w t x → ∃ t', dep t' = dep t ∧ LiesP P (w.setCell ⟨g, o, none⟩ (.int .u8 z)) t' x := by
  refine T.ind fun l bs its ih x h => ?_
  obtain ⟨⟨h1, h2, h3, h4, h5, h6, h8⟩, h7⟩ := liesP_eq.1 h
  obtain ⟨its', e1, e2, e3⟩ := liesPAll_write hold ih h7
  obtain ⟨bs', hb'⟩ := ag_write h2 (g := g) (o := o) hz
  exact ⟨.mk l bs' its', by rw [dep_eq, dep_eq, e2], liesP_eq.2 ⟨⟨h1, hb', by rw [e1]; exact h3, h4, h5, h6, fun g' off' q1 q2 => ⟨(h8 g' off' q1 q2).1, fun o' => by rw [World.frozen?_setCell]; exact (h8 g' off' q1 q2).2 o'⟩⟩, e3⟩⟩
/-- What writing over bytes in blocks of which P holds leaves. -/
structure Sf (P : Nat → Prop) (w w' : World) : Prop where
  os : w'.os = w.os
  tape : w'.tape = w.tape
  output : w'.output = w.output
  size : w.heap.size ≤ w'.heap.size
  frame : ∀ b, ¬ P b → b < w.heap.size → w'.heap[b]? = w.heap[b]?
  cells : ∀ g o v, w.cell? ⟨g, o, none⟩ = some v → (∀ n, v ≠ .int .u8 n) → w'.cell? ⟨g, o, none⟩ = some v
  lies : ∀ t x, LiesP P w t x → ∃ t', dep t' = dep t ∧ LiesP P w' t' x
theorem Sf.trans {P : Nat → Prop} {a b c : World} (h : Sf P a b) (k : Sf P b c) : Sf P a c :=
  ⟨k.os.trans h.os, k.tape.trans h.tape, k.output.trans h.output, Nat.le_trans h.size k.size, fun i hp hi => (k.frame i hp (Nat.lt_of_lt_of_le hi h.size)).trans (h.frame i hp hi), fun g o v h1 h2 => k.cells g o v (h.cells g o v h1 h2) h2, fun t x hx => by
    obtain ⟨t1, e1, f1⟩ := h.lies t x hx
    obtain ⟨t2, e2, f2⟩ := k.lies t1 x f1
    exact ⟨t2, e2.trans e1, f2⟩⟩
theorem Sf.new {P : Nat → Prop} {w w' : World} (h : Below w.heap.size w w') : Sf P w w' :=
  ⟨h.os, h.tape, h.output, h.size, fun b _ hb => h.block b hb, fun g o v h1 _ => below_cell h h1, fun t x hx => ⟨t, rfl, liesP_mono (fun b hp hb => ⟨h.block b hb, hp⟩) t x hx⟩⟩
theorem Sf.write {P : Nat → Prop} {w : World} {g o : Nat} {z0 z : Int} (hold : w.cell? ⟨g, o, none⟩ = some (.int .u8 z0)) (hz : 0 ≤ z ∧ z < 256) (hp : P g) : Sf P w (w.setCell ⟨g, o, none⟩ (.int .u8 z)) :=
  ⟨rfl, rfl, rfl, by simp, fun b hb _ => heap_setCell_other _ _ _ _ (fun e => hb (e ▸ hp)), fun g' o' v h1 h2 => by
    rw [World.cell?_setCell_other _ _ _ _ (fun e => by rw [← e, hold] at h1; exact h2 _ (Option.some.inj h1).symm)]
    exact h1, fun t x hx => liesP_write hold hz t x hx⟩
theorem liesPAll_at {P : Nat → Prop} {w : World} {a : Option Addr} : ∀ {its : List T} {k : Nat}, LiesPAll P w its a k → ∀ i, ∀ t, its[i]? = some t → ∃ g off y, At w a (k + i) t g off y ∧ LiesP P w t y
  | [], k, _, i, t, h => by simp at h
  | t :: r, k, hl, i, u, h => by
    obtain ⟨⟨g, off, y, h1, h2, h3, h4, h5⟩, hr⟩ := liesPAll_cons.1 hl
    cases i with
    | zero =>
      simp at h
      subst h
      exact ⟨g, off, y, ⟨h1.1, h2, h3, h4, liesP_lies _ _ h5⟩, h5⟩
    | succ i =>
      simp at h
      obtain ⟨g', off', y', h'⟩ := liesPAll_at hr i u h
      rw [show k + 1 + i = k + (i + 1) from by omega] at h'
      exact ⟨g', off', y', h'⟩
/-- While spoil goes on. -/
structure Sq (P : Nat → Prop) (w : World) (y : V) (d : Nat) (v : World) : Prop where
  sf : Sf P w v
  box : B1 w.heap.size v y
  li : ∃ t, dep t ≤ d ∧ LiesP P v t y
theorem Sq.go {P : Nat → Prop} {w : World} {y : V} {d : Nat} {v v' : World} (h : Sq P w y d v) (k : Sf P v v') : Sq P w y d v' := by
  obtain ⟨t, ht, hl⟩ := h.li
  obtain ⟨t', e, hl'⟩ := k.lies t y hl
  exact ⟨h.sf.trans k, ⟨k.cells _ _ _ h.box.c0 (fun n e => by cases e), k.cells _ _ _ h.box.c1 (fun n e => by cases e), k.cells _ _ _ h.box.c2 (fun n e => by cases e)⟩, t', by omega, hl'⟩
end Go.Proofs.Ytkbdkenpblcofab

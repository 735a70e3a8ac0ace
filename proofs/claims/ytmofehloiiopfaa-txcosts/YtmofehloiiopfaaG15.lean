/- Steps through a region whose order is drawn, while something holds of the world: what yields wherever it holds, a call by its contract. -/
import Derived.Test.YtmofehloiiopfaaG07
import Derived.Deep.RegionHeld3
import Derived.Test.YtmofehloiiopfaaG08
import Derived.Laws.CopyRow
namespace Go.Proofs.Ytmofehloiiopfaa
open Go.RowKit
set_option linter.unusedVariables false
set_option maxRecDepth 100000
section
variable {P : Program} {md : Region.Mode} {ops : Array Oper} {Q : Exit → Act → World → Prop} {S : World → Prop} {fuel : Nat} {listed : Array Bool} {a : Act} {w : World}
end
section
variable {a : Act} {w : World}
end
theorem below_go {w0 w w' : World} (h : Below w0.heap.size w0 w) (hb : Below w.heap.size w w') : Below w0.heap.size w0 w' := h.trans (hb.mono h.size)
theorem below_cell {w w' : World} (hb : Below w.heap.size w w') {g o : Nat} {v : Value} (h : w.cell? ⟨g, o, none⟩ = some v) : w'.cell? ⟨g, o, none⟩ = some v := (hb.cell (p := ⟨g, o, none⟩) (block_lt_of_cell h)).trans h
theorem ag_nil (w : World) : Ag w none 0 0 [] := ⟨.inl ⟨rfl, rfl⟩, fun _ => ⟨rfl, rfl⟩, rfl, fun x hx => by cases hx⟩
end Go.Proofs.Ytmofehloiiopfaa
/- A box that holds an item. -/
namespace Go.Proofs.Ytmofehloiiopfaa
open Go.RowKit
set_option linter.unusedVariables false
/-- A box that holds an item. -/
structure B1 (g : Nat) (v : World) (y : V) : Prop where
  c0 : v.cell? ⟨g, 0, none⟩ = some (.bool y.l)
  c1 : v.cell? ⟨g, 1, none⟩ = some (.slice y.ba y.bn y.bc)
  c2 : v.cell? ⟨g, 2, none⟩ = some (.slice y.ia y.m y.ic)
theorem B1.go {g : Nat} {v v' : World} {y : V} (h : B1 g v y) (hb : Below v.heap.size v v') : B1 g v' y := ⟨below_cell hb h.c0, below_cell hb h.c1, below_cell hb h.c2⟩
theorem b1_new (w : World) (y : V) : B1 w.heap.size (w.alloc (.cells #[.bool y.l, .slice y.ba y.bn y.bc, .slice y.ia y.m y.ic] 45)) y := by
  have h := heap_alloc_new w (.cells #[.bool y.l, .slice y.ba y.bn y.bc, .slice y.ia y.m y.ic] 45)
  exact ⟨by rw [cell_of_row _ _ _ _ _ _ h]; rfl, by rw [cell_of_row _ _ _ _ _ _ h]; rfl, by rw [cell_of_row _ _ _ _ _ _ h]; rfl⟩
theorem below_new (w : World) (o : Obj) : Below w.heap.size w (w.alloc o) := (Below.refl _ _).alloc (Nat.le_refl _) _
theorem encP_yes {t : T} (h : (mP t).2 = 0) : encP t = (enc t, 0) := by unfold encP; rw [if_pos h]
end Go.Proofs.Ytmofehloiiopfaa
/- What List answers: a list of its own, with the same things. -/
namespace Go.Proofs.Ytmofehloiiopfaa
open Go.RowKit
set_option linter.unusedVariables false
set_option maxRecDepth 100000
theorem run_copy_items (w : World) (ty : TypeId) (g m dc : Nat) (a : Addr) (sCap : Nat) (cur : Array Value) (t : TypeId) (cs : List Value)
    (hg : w.heap[g]? = some (.cells cur t (0, 0))) (hn : cs.length = m * 3) (hsrc : ∀ j v, cs[j]? = some v → w.cell? (a.add j) = some v) (hfit : cs.length = cur.size) (h1 : ∀ v ∈ cs, v.oneCell' = true) :
    (Builtin.copy_ #[43, 43] ty #[.slice (some ⟨g, 0, none⟩) m dc, .slice (some a) m sCap]).run Try.prog w = .ok (goInt m) (w.setRow g cs.toArray) := by
  have hl := run_loadCells_list (P := Try.prog) w a cs hsrc
  have hst := run_storeCells_at Try.prog g 0 t cs 0 cur w hg (by omega) h1
  rw [Nat.zero_add, List.take_zero, List.nil_append, Nat.zero_add, List.drop_of_length_le (by simp [hfit]), List.append_nil] at hst
  rw [hn] at hl
  simp [Builtin.copy_, run_underlying Try.underlying43, Builtin.lenOf, Builtin.firstCells, hl, hst]
theorem run_copy_zero (w : World) (ty : TypeId) (g dc : Nat) (a : Option Addr) (sCap : Nat) (ha : a = none → sCap = 0) :
    (Builtin.copy_ #[43, 43] ty #[.slice (some ⟨g, 0, none⟩) 0 dc, .slice a 0 sCap]).run Try.prog w = .ok (goInt 0) w := by
  cases a with
  | none =>
    rw [ha rfl]
    simp [Builtin.copy_, run_underlying Try.underlying43, Builtin.lenOf, Builtin.firstCells, storeCells]
  | some a =>
    have hl := run_loadCells_list (P := Try.prog) w a [] (fun j v h => by simp at h)
    have hl2 : (loadCells a 0).run Try.prog w = .ok #[] w := by simpa using hl
    simp [Builtin.copy_, run_underlying Try.underlying43, Builtin.lenOf, Builtin.firstCells, storeCells, hl2]
theorem wpl_copyL {w : World} {ops : Array Oper} {rest : List Oper} {o : Oper} {a : Act} {Q : Exit → Act → World → Prop} (hgd : o.guard = none) (d x : Operand)
    (ho : o.op = .call { callee := .builtin .copy, args := #[d, x], argTypes := #[43, 43] }) (v u : Value) (hd : a.eval d = v) (hx : a.eval x = u) {v' : Value} {w' : World}
    (hr : (Builtin.copy_ #[43, 43] o.type #[v, u]).run Try.prog w = .ok v' w') (h : wpList Try.prog ops Q rest (a.put o.dst v') w') : wpList Try.prog ops Q (o :: rest) a w := by
  refine wpList_plain hgd fun K hK => ?_
  unfold Oper.wp
  simp [execOp, ho, resolve, invoke, builtin, hd, hx, hr, Result.andThen]
  exact hK _ _ h
/-- The headers of a list's things. -/
theorem liesAll_row {w : World} {a : Option Addr} : ∀ {ts : List T} {k : Nat}, LiesAll w ts a k → ∃ ys : List V, ys.length = ts.length ∧ ∀ i y, ys[i]? = some y → ∃ g off t, At w a (k + i) t g off y
  | [], k, _ => ⟨[], rfl, fun i y h => by simp at h⟩
  | t :: r, k, h => by
    obtain ⟨⟨g, off, y, h1, h2, h3, h4, h5⟩, hr⟩ := liesAll_cons.1 h
    obtain ⟨ys, e1, e2⟩ := liesAll_row hr
    refine ⟨y :: ys, by rw [List.length_cons, List.length_cons, e1], fun i z hz => ?_⟩
    cases i with
    | zero =>
      have : y = z := by simpa using hz
      subst this
      exact ⟨g, off, t, h1, h2, h3, h4, h5⟩
    | succ i =>
      obtain ⟨g', off', t', A⟩ := e2 i z (by simpa using hz)
      rw [show k + 1 + i = k + (i + 1) from by omega] at A
      exact ⟨g', off', t', A⟩
theorem row_cells {w : World} {g off : Nat} {ys : List V} (h : ∀ i y, ys[i]? = some y → w.cell? ⟨g, off + i * 3, none⟩ = some (.bool y.l) ∧ w.cell? ⟨g, off + i * 3 + 1, none⟩ = some (.slice y.ba y.bn y.bc) ∧ w.cell? ⟨g, off + i * 3 + 2, none⟩ = some (.slice y.ia y.m y.ic)) :
    ∀ j v, (ys.flatMap V.cells)[j]? = some v → w.cell? ((⟨g, off, none⟩ : Addr).add j) = some v := by
  intro j v hv
  rw [addr_add]
  have hj := (List.getElem?_eq_some_iff.1 hv).1
  rw [flat_len] at hj
  obtain ⟨y, hy⟩ : ∃ y, ys[j / 3]? = some y := ⟨ys[j / 3]'(by omega), List.getElem?_eq_getElem _⟩
  have hs := split_get hy
  obtain ⟨q0, q1, q2⟩ := h (j / 3) y hy
  have hlen : (ys.take (j / 3)).length = j / 3 := by rw [List.length_take]; omega
  have hr : j % 3 = 0 ∨ j % 3 = 1 ∨ j % 3 = 2 := by omega
  have hget : ∀ u, (V.cells y)[j % 3]? = some u → (ys.flatMap V.cells)[j]? = some u := by
    intro u hu
    have := flat_get (ys.take (j / 3)) y (ys.drop (j / 3 + 1)) (j % 3) u hu
    rw [← hs, hlen, show j / 3 * 3 + j % 3 = j from by omega] at this
    exact this
  rcases hr with e | e | e
  · have := hget (.bool y.l) (by rw [e]; rfl)
    rw [hv] at this
    rw [Option.some.inj this, show off + j = off + j / 3 * 3 from by omega]
    exact q0
  · have := hget (.slice y.ba y.bn y.bc) (by rw [e]; rfl)
    rw [hv] at this
    rw [Option.some.inj this, show off + j = off + j / 3 * 3 + 1 from by omega]
    exact q1
  · have := hget (.slice y.ia y.m y.ic) (by rw [e]; rfl)
    rw [hv] at this
    rw [Option.some.inj this, show off + j = off + j / 3 * 3 + 2 from by omega]
    exact q2
theorem cells_all (ys : List V) : ∀ v ∈ ys.flatMap V.cells, v.oneCell' = true := by
  intro v hv
  obtain ⟨y, _, hy⟩ := List.mem_flatMap.1 hv
  exact cells_one y v hy
set_option maxHeartbeats 1000000 in
theorem list_any (a : Option Addr) (m c : Nat) (ts : List T) (hm : m = ts.length ∧ m ≤ c ∧ c ≤ maxLen ∧ m ≤ 140737488351232) (w : World) (hall : LiesAll w ts a 0) (hb56 : 56 * m ≤ 281474976710656) (hnil : a = none → c = 0) :
    Calls Try.prog 45 #[.slice a m c] w fun e w' => ∃ ys : List V, ys.length = m ∧ e = .returned (.agg #[.bool true, .slice none 0 0, .slice (some ⟨w.heap.size + 1, 0, none⟩) m m]) ∧ w'.heap[w.heap.size + 1]? = some (.cells (ys.flatMap V.cells).toArray 45) ∧ (∀ i y, ys[i]? = some y → ∃ g off t, At w a i t g off y) ∧ Below w.heap.size w w' := by
  obtain ⟨hm1, hm2, hm3, hm4⟩ := hm
  obtain ⟨ys, hy1, hy2⟩ := liesAll_row hall
  obtain ⟨iI, hi, hz, hsz, hby⟩ := infoI
  have hmk := fun w => run_make (P := Try.prog) w 43 45 iI _ Try.underlying43 hi hz .i64 .i64 m m (by omega) (by omega) (by rw [hby]; omega) (by omega)
  rw [hsz, Int.toNat_natCast] at hmk
  obtain ⟨w0, hw0⟩ : ∃ w0, w.alloc (.cells #[.bool false, .slice none 0 0, .slice none 0 0] 45) = w0 := ⟨_, rfl⟩
  have hs0 : w0.heap.size = w.heap.size + 1 := by rw [← hw0]; simp
  have hbw0 : Below w.heap.size w w0 := by rw [← hw0]; exact below_new _ _
  have hres : w0.heap[w.heap.size]? = some (.cells #[.bool false, .slice none 0 0, .slice none 0 0] 45) := by rw [← hw0]; exact heap_alloc_new _ _
  obtain ⟨MC, hMC⟩ : ∃ MC, madeCells (Value.agg #[.bool false, .slice none 0 0, .slice none 0 0]).cells (m * 3) = MC := ⟨_, rfl⟩
  rw [hMC] at hmk
  have hms : MC.size = m * 3 := by rw [← hMC, size_madeCells]
  have hyl : ys.length = m := by rw [hy1, hm1]
  obtain ⟨w1, hrun, hrow1, hoth, hbel1⟩ : ∃ w1, (∀ ty, (Builtin.copy_ #[43, 43] ty #[.slice (some ⟨w0.heap.size, 0, none⟩) m m, .slice a m c]).run Try.prog (w0.alloc (.cells MC 45)) = .ok (goInt m) w1) ∧ w1.heap[w0.heap.size]? = some (.cells (ys.flatMap V.cells).toArray 45) ∧ w1.heap[w.heap.size]? = some (.cells #[.bool false, .slice none 0 0, .slice none 0 0] 45) ∧ Below w0.heap.size w0 w1 := by
    by_cases h0 : m = 0
    · subst h0
      have hys : ys = [] := List.eq_nil_of_length_eq_zero hyl
      subst hys
      have hMC0 : MC = #[] := Array.eq_empty_of_size_eq_zero (by omega)
      subst hMC0
      exact ⟨_, fun ty => run_copy_zero _ ty _ _ a c hnil, heap_alloc_new _ _, (Below.heap_alloc _ _ _ (by omega)).trans hres, below_new _ _⟩
    · obtain ⟨y0, hy0⟩ : ∃ y, ys[0]? = some y := ⟨ys[0]'(by omega), List.getElem?_eq_getElem _⟩
      obtain ⟨g, off, t, A⟩ := hy2 0 y0 hy0
      have ha := A.ha
      subst ha
      have hbb : Below w.heap.size w (w0.alloc (.cells MC 45)) := hbw0.alloc (by omega) _
      have hcs := row_cells (w := w0.alloc (.cells MC 45)) (g := g) (off := off) (ys := ys) (fun i y h => by
        obtain ⟨g', off', t', A'⟩ := hy2 i y h
        have ha' := A'.ha
        cases ha'
        have c0 := A'.c0
        have c1 := A'.c1
        have c2 := A'.c2
        rw [Nat.zero_add] at c0 c1 c2
        exact ⟨below_cell hbb c0, below_cell hbb c1, below_cell hbb c2⟩)
      refine ⟨_, fun ty => run_copy_items _ ty w0.heap.size m m ⟨g, off, none⟩ c MC 45 (ys.flatMap V.cells) (heap_alloc_new _ _) (by rw [flat_len, hyl]) hcs (by rw [flat_len, hyl, hms]) (cells_all ys), setRow_heap _ _ _ _ _ _ (heap_alloc_new _ _), ?_, ?_⟩
      · rw [setRow_other _ _ _ _ (by omega)]
        exact (Below.heap_alloc _ _ _ (by omega)).trans hres
      · exact Touch.below (below_new _ _) (Touch.setRow _ _ _) (Nat.le_refl _) (by simp)
  rw [hs0] at hrun hrow1
  rw [← hw0] at hrun
  have HRUN := Hid.mk hrun
  have HROW := Hid.mk hrow1
  have HB := Hid.mk (below_go hbw0 hbel1)
  have HRES := Hid.mk hoth
  have x0 : w1.cell? ⟨w.heap.size, 0, none⟩ = some (.bool false) := by rw [cell_of_row _ _ _ _ _ _ hoth]; rfl
  have x1 : w1.cell? ⟨w.heap.size, 1, none⟩ = some (.slice none 0 0) := by rw [cell_of_row _ _ _ _ _ _ hoth]; rfl
  have x2 : w1.cell? ⟨w.heap.size, 2, none⟩ = some (.slice none 0 0) := by rw [cell_of_row _ _ _ _ _ _ hoth]; rfl
  have xf : ∀ o, w1.frozen? ⟨w.heap.size, o, none⟩ = false := fun o => frozen_of_row _ _ _ _ _ hoth
  have HY := Hid.mk hy2
  have HYL := Hid.mk hyl
  clear hrun hrow1 hbel1 hoth hw0 hs0 hbw0 hres hMC hms hall hy1 hy2 hm1 hyl hi hz hsz hby hnil
  go_enter Try.func45, Try.ntmps45
  go_wp2_with (first | refine wpl_copyL rfl _ _ rfl _ _ rfl rfl (HRUN.out _) ?_)
  have hr := put3 HRES.out (.bool true) (.slice none 0 0) (.slice (some ⟨w.heap.size + 1, 0, none⟩) m m)
  refine bodyPost_ret (results_cell_row Try.results45 _ _ w.heap.size 45 _ (0, 0) _ rfl hr Try.underlying45 rfl (by kernel_rfl)) rfl ?_
  exact ⟨ys, HYL.out, rfl, (other3 (by omega) _ _ _).trans HROW.out, fun i y h => by have := HY.out i y h; simpa using this, below3 HB.out (Nat.le_refl _) _ _ _⟩
end Go.Proofs.Ytmofehloiiopfaa

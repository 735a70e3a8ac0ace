/- Steps that make memory, and a reference that is stored within a row of them. -/
import Derived.Test.YtamibjgahcpkcaaG20
import Derived.Test.YtamibjgahcpkcaaG19
import Derived.Test.YtamibjgahcpkcaaG22
namespace Go.Proofs.Ytamibjgahcpkcaa
open Go.RowKit
set_option linter.unusedVariables false
set_option maxRecDepth 100000
/-- The cells of a row of references. -/
def flatR (ys : List RV) : List Value := ys.flatMap RV.cells
theorem flatR_len : ∀ {ys : List RV}, (∀ y ∈ ys, y.d.length = 32) → (flatR ys).length = ys.length * 34
  | [], _ => rfl
  | y :: r, h => by
    have ih := flatR_len fun z hz => h z (List.mem_cons_of_mem _ hz)
    unfold flatR at ih ⊢
    rw [List.flatMap_cons, List.length_append, ih, RV.len (h y (by simp)), List.length_cons]
    omega
theorem flatR_app (a b : List RV) : flatR (a ++ b) = flatR a ++ flatR b := by unfold flatR; rw [List.flatMap_append]
theorem flatR_one (y : RV) : flatR [y] = y.cells := by unfold flatR; rw [List.flatMap_cons, List.flatMap_nil, List.append_nil]
theorem infoRz : ∃ i, Try.prog.info? 26 = some i ∧ i.zero = some (.agg rz.cells.toArray) ∧ i.size = 34 ∧ i.bytes = 64 := by
  have h : (Try.prog.info? 26).map (fun i => (i.zero, i.size, i.bytes)) = some (some (.agg rz.cells.toArray), 34, 64) := by kernel_rfl
  cases hq : Try.prog.info? 26 with
  | none => rw [hq] at h; simp at h
  | some i => rw [hq] at h; simp at h; exact ⟨i, rfl, h.1, h.2.1, h.2.2⟩
theorem made16 : madeCells (Value.agg rz.cells.toArray).cells ((16 : Int).toNat * 34) = (flatR (List.replicate 16 rz)).toArray := by kernel_rfl
section
variable {a : Act} {w : World}
theorem rd_make16 {o : Oper} (ho : o.op = .makeSlice 27 (.const (.int .i64 16)) (.const (.int .i64 16))) : (execOp a.eval o).run Try.prog w = .ok (.value (.slice (some ⟨w.heap.size, 0, none⟩) 16 16)) (w.alloc (.cells (flatR (List.replicate 16 rz)).toArray 26)) := by
  obtain ⟨i, hi, hz, hsz, hby⟩ := infoRz
  have hr : (Instr.makeSlice 27 (.int .i64 16) (.int .i64 16)).run Try.prog w = .ok (.slice (some ⟨w.heap.size, 0, none⟩) 16 16) (w.alloc (.cells (flatR (List.replicate 16 rz)).toArray 26)) := by
    have h := run_make (P := Try.prog) w 27 26 i _ Try.underlying27 hi hz .i64 .i64 16 16 (by omega) (by omega) (by rw [hby]; omega) (by omega)
    rw [hsz, show madeCells (Value.agg rz.cells.toArray).cells ((16 : Int).toNat * 34) = (flatR (List.replicate 16 rz)).toArray from made16] at h
    exact h
  unfold execOp
  rw [ho]
  simp only [Act.eval, Sem.run_bind, hr, Result.andThen_ok, Sem.run_pure]
theorem rd_allocN {o : Oper} (ho : o.op = .alloc 29) : (execOp a.eval o).run Try.prog w = .ok (.value (.pointer (some ⟨w.heap.size, 0, none⟩))) (w.alloc (.cells nz.cells.toArray 29)) := by
  unfold execOp
  rw [ho]
  go_simp
  rfl
theorem rd_storeAt {x y : Operand} {o : Oper} (ho : o.op = .store 26 x y) (g off : Nat) (r : RV) (hl : r.d.length = 32) (hx : a.eval x = .pointer (some ⟨g, off, none⟩)) (hy : a.eval y = .agg r.cells.toArray) (t : TypeId) (cur : Array Value)
    (hg : w.heap[g]? = some (.cells cur t (0, 0))) (hfit : off + 34 ≤ cur.size) :
    (execOp a.eval o).run Try.prog w = .ok .skip (w.setRow g (cur.toList.take off ++ r.cells ++ cur.toList.drop (off + 34)).toArray) := by
  have hst := run_storeCells_at Try.prog g off t r.cells 0 cur w hg (by rw [RV.len hl]; omega) r.one
  have hi := infoR
  cases hq : Try.prog.info? 26 with
  | none => rw [hq] at hi; simp at hi
  | some i =>
    have hs : i.size = 34 := by rw [hq] at hi; simpa using hi
    have hsv : (storeVar 26 ⟨g, off, none⟩ (.agg r.cells.toArray)).run Try.prog w = .ok () (w.setRow g (cur.toList.take off ++ r.cells ++ cur.toList.drop (off + 34)).toArray) := by
      rw [RV.len hl] at hst
      simp [storeVar, sizeOf, typeInfo, hq, Value.cells, hs, RV.len hl]
      simpa using hst
    unfold execOp
    rw [ho]
    simp only [hx, hy, Instr.storeAt, Instr.sureAddr, Sem.run_bind, Sem.run_pure, Result.andThen_ok, hsv]
end
end Go.Proofs.Ytamibjgahcpkcaa
/- What branchNode answers. -/
namespace Go.Proofs.Ytamibjgahcpkcaa
open Go.RowKit
set_option linter.unusedVariables false
set_option maxRecDepth 100000
theorem kids_none : ∀ {ts : List T} {t : T}, t ∈ ts → refOfP t = none → kidsP ts = none
  | x :: l, t, ht, h => by
    rw [kidsP]
    rcases List.mem_cons.1 ht with rfl | ht
    · rw [h]
    · rw [kids_none ht h]
      cases refOfP x <;> rfl
theorem kids_snoc : ∀ {ts : List T} {rs : List PR} {t : T} {r : PR}, kidsP ts = some rs → refOfP t = some r → kidsP (ts ++ [t]) = some (rs ++ [r])
  | [], rs, t, r, h, hr => by
    cases h
    rw [List.nil_append, kidsP, hr, kidsP]
    rfl
  | x :: l, rs, t, r, h, hr => by
    rw [kidsP] at h
    rw [List.cons_append, kidsP]
    cases hx : refOfP x with
    | none => rw [hx] at h; cases h
    | some a =>
      rw [hx] at h
      dsimp only at h ⊢
      cases hk : kidsP l with
      | none => rw [hk] at h; cases h
      | some l' =>
        rw [hk] at h
        cases h
        rw [kids_snoc hk hr]
        rfl
/-- References, one behind the other. -/
def RefsAt (K : Nat → Prop) (w : World) (ys : List RV) (rs : List PR) : Prop := rs.length = ys.length ∧ (∀ y ∈ ys, y.d.length = 32) ∧ ∀ (i : Nat) (y : RV) (r : PR), ys[i]? = some y → rs[i]? = some r → RefAt K w y r
theorem RefsAt.go {K L : Nat → Prop} {w w' : World} (hk : Keep K L w w') {ys : List RV} {rs : List PR} (h : RefsAt K w ys rs) : RefsAt L w' ys rs := ⟨h.1, h.2.1, fun i y r h1 h2 => (h.2.2 i y r h1 h2).go hk⟩
theorem RefsAt.snoc {K : Nat → Prop} {w : World} {ys : List RV} {rs : List PR} {y : RV} {r : PR} (h : RefsAt K w ys rs) (hy : RefAt K w y r) : RefsAt K w (ys ++ [y]) (rs ++ [r]) := by
  refine ⟨by simp [h.1], fun z hz => ?_, fun i z s h1 h2 => ?_⟩
  · rcases List.mem_append.1 hz with hz | hz
    · exact h.2.1 z hz
    · simp only [List.mem_cons, List.not_mem_nil, or_false] at hz; rw [hz]; exact hy.len
  · by_cases hi : i < ys.length
    · rw [List.getElem?_append_left hi] at h1
      rw [List.getElem?_append_left (by rw [h.1]; exact hi)] at h2
      exact h.2.2 i z s h1 h2
    · have hi2 : i = ys.length := by
        have := (List.getElem?_eq_some_iff.1 h1).1
        simp at this; omega
      subst hi2
      simp at h1
      rw [← h.1] at h2
      simp at h2
      rw [← h1, ← h2]; exact hy
theorem flat_at {pre : List RV} {y : RV} {post : List RV} (hp : ∀ z ∈ pre, z.d.length = 32) {j : Nat} {u : Value} (h : y.cells[j]? = some u) : (flatR (pre ++ y :: post))[pre.length * 34 + j]? = some u := by
  have e : flatR (pre ++ y :: post) = flatR pre ++ (y.cells ++ flatR post) := by
    rw [flatR_app, show y :: post = [y] ++ post from rfl, flatR_app, flatR_one]
  rw [e, List.getElem?_append_right (by rw [flatR_len hp]; omega), flatR_len hp, show pre.length * 34 + j - pre.length * 34 = j from by omega, List.getElem?_append_left (List.getElem?_eq_some_iff.1 h).1]
  exact h
/-- A whole row of references is a node's kids. -/
theorem kidsAt_row {K : Nat → Prop} {w : World} {g : Nat} {ys : List RV} {rs : List PR} (hr : w.heap[g]? = some (.cells (flatR ys).toArray 26)) (hK : K g) (h : RefsAt K w ys rs) : KidsAt K w (some ⟨g, 0, none⟩) rs := fun j r hj => by
  have hjl : j < ys.length := by rw [← h.1]; exact (List.getElem?_eq_some_iff.1 hj).1
  refine ⟨g, 0, ys[j], rfl, hK, fun k u hu => ?_, h.2.2 j _ r (List.getElem?_eq_getElem hjl) hj⟩
  rw [cell_of_row _ _ _ _ _ _ hr, List.getElem?_toArray]
  have e : ys = ys.take j ++ ys[j] :: ys.drop (j + 1) := by rw [← List.drop_eq_getElem_cons hjl, List.take_append_drop]
  have hl : (ys.take j).length = j := by rw [List.length_take]; omega
  have hf := flat_at (pre := ys.take j) (post := ys.drop (j + 1)) (fun z hz => h.2.1 z (List.mem_of_mem_take hz)) hu
  rw [hl, ← e] at hf
  rw [show 0 + j * 34 + k = j * 34 + k from by omega]
  exact hf
/-- One reference stored in its place. -/
theorem flat_put {pre : List RV} {z y : RV} {post : List RV} (hp : ∀ x ∈ pre, x.d.length = 32) (hz : z.d.length = 32) :
    (flatR (pre ++ z :: post)).take (pre.length * 34) ++ y.cells ++ (flatR (pre ++ z :: post)).drop (pre.length * 34 + 34) = flatR (pre ++ y :: post) := by
  have e : ∀ x : RV, flatR (pre ++ x :: post) = flatR pre ++ (x.cells ++ flatR post) := fun x => by
    rw [flatR_app, show x :: post = [x] ++ post from rfl, flatR_app, flatR_one]
  rw [e z, e y]
  have l1 := flatR_len hp
  rw [List.take_append_of_le_length (by omega), List.take_of_length_le (by omega), List.drop_append, List.drop_of_length_le (by omega), List.nil_append, l1, show pre.length * 34 + 34 - pre.length * 34 = 34 from by omega, List.drop_append, List.drop_of_length_le (by rw [RV.len hz]; omega), List.nil_append, RV.len hz, Nat.sub_self, List.drop_zero, List.append_assoc]
section
variable {w : World} {ops : Array Oper} {rest : List Oper} {o : Oper} {a : Act} {Q : Exit → Act → World → Prop}
theorem wpl_storeAt (hw : Region.wanted o (yielded ops a.tmps) = true) (x y : Operand) (ho : o.op = .store 26 x y) (g off : Nat) (r : RV) (hl : r.d.length = 32) (hx : a.eval x = .pointer (some ⟨g, off, none⟩)) (hy : a.eval y = .agg r.cells.toArray) (t : TypeId) (cur : Array Value)
    (hg : w.heap[g]? = some (.cells cur t (0, 0))) (hfit : off + 34 ≤ cur.size) (h : wpList Try.prog ops Q rest (a.put o.dst undef) (w.setRow g (cur.toList.take off ++ r.cells ++ cur.toList.drop (off + 34)).toArray)) : wpList Try.prog ops Q (o :: rest) a w :=
  wants hw fun K hK => by
    unfold Oper.wp
    rw [rd_storeAt ho g off r hl hx hy t cur hg hfit, Oper.upon_skip]
    exact hK _ _ h
end
/-- The value's box and the result's, while branchNode goes on. -/
structure Pb (w v : World) (y : V) : Prop where
  row : v.heap[w.heap.size + 1]? = some (.cells nz.cells.toArray 29)
  bx : B1 w.heap.size v y
  bel : Below w.heap.size w v
  sz : v.heap.size = w.heap.size + 2
theorem pb_new (w : World) (y : V) : Pb w ((w.alloc (.cells #[.bool y.l, .slice y.ba y.bn y.bc, .slice y.ia y.m y.ic] 49)).alloc (.cells nz.cells.toArray 29)) y := by
  have s1 : (w.alloc (.cells #[.bool y.l, .slice y.ba y.bn y.bc, .slice y.ia y.m y.ic] 49)).heap.size = w.heap.size + 1 := by simp
  refine ⟨?_, (b1_new w y).alloc _, below_go (below_new w _) (below_new _ _), by simp⟩
  have := heap_alloc_new (w.alloc (.cells #[.bool y.l, .slice y.ba y.bn y.bc, .slice y.ia y.m y.ic] 49)) (.cells nz.cells.toArray 29)
  rwa [s1] at this
def nvB (y : V) (gk : Nat) : NV := ⟨3, none, 0, 0, y.ba, y.bn, y.bc, rz, some ⟨gk, 0, none⟩, 16, 16⟩
/-- The node that is filled, while branchNode goes on. -/
structure Bk (w u : World) (y : V) (gk gn : Nat) (C : List RV) : Prop where
  row : u.heap[w.heap.size + 1]? = some (.cells nz.cells.toArray 29)
  bx : B1 w.heap.size u y
  nb : NBx gn u (nvB y gk)
  kr : u.heap[gk]? = some (.cells (flatR C).toArray 26)
  bel : Below w.heap.size w u
  gk2 : w.heap.size + 2 ≤ gk ∧ gk < w.heap.size + 4
  gn2 : w.heap.size + 2 ≤ gn ∧ gn < w.heap.size + 4
  ne : gk ≠ gn
  sz : w.heap.size + 4 ≤ u.heap.size
theorem Bk.go {w u u' : World} {y : V} {gk gn : Nat} {C : List RV} (h : Bk w u y gk gn C) (hb : Below u.heap.size u u') : Bk w u' y gk gn C :=
  ⟨Below.row hb h.row, h.bx.go hb, h.nb.go hb, Below.row hb h.kr, below_go h.bel hb, h.gk2, h.gn2, h.ne, Nat.le_trans h.sz hb.size⟩
theorem Bk.put {w u : World} {y : V} {gk gn : Nat} {C D : List RV} (h : Bk w u y gk gn C) : Bk w (u.setRow gk (flatR D).toArray) y gk gn D :=
  ⟨(setRow_other _ _ _ _ (by have := h.gk2; omega)).trans h.row, b1_setRow h.bx (by have := h.gk2; omega), ⟨(setRow_other _ _ _ _ (Ne.symm h.ne)).trans h.nb.row, h.nb.l⟩, setRow_heap _ _ _ _ _ _ h.kr, Below.setRow h.bel (by have := h.gk2; omega) _, h.gk2, h.gn2, h.ne, by simpa using h.sz⟩
theorem b1_put3 {w1 : World} {y : V} : B1 w1.heap.size ((((w1.alloc (.cells #[.bool false, .slice none 0 0, .slice none 0 0] 49)).setCell ⟨w1.heap.size, 0, none⟩ (.bool y.l)).setCell ⟨w1.heap.size, 1, none⟩ (.slice y.ba y.bn y.bc)).setCell ⟨w1.heap.size, 2, none⟩ (.slice y.ia y.m y.ic)) y := by
  have h := put3 (heap_alloc_new w1 (.cells #[.bool false, .slice none 0 0, .slice none 0 0] 49)) (.bool y.l) (.slice y.ba y.bn y.bc) (.slice y.ia y.m y.ic)
  exact ⟨by rw [cell_of_row _ _ _ _ _ _ h]; rfl, by rw [cell_of_row _ _ _ _ _ _ h]; rfl, by rw [cell_of_row _ _ _ _ _ _ h]; rfl⟩
end Go.Proofs.Ytamibjgahcpkcaa

/- Accounts in memory: their type, built ones, two held against each other. -/
import Derived.Test.YtmaajddofmahpaaG13
import Derived.Test.YtmaajddofmahpaaG14
import Derived.Test.YtmaajddofmahpaaG23
import Derived.Test.YtmaajddofmahpaaG21
import Derived.Laws.CopyRow
namespace Go.Proofs.Ytmaajddofmahpaa
open Go.RowKit
open Di (dref)
set_option linter.unusedVariables false
set_option maxRecDepth 100000
abbrev AV (a : PA) : List Value := AVs a.n a.b a.c a.s
theorem accT : ∃ f0 f1 f2 f3, AccTy Try.prog 26 24 5 22 f0 f1 f2 f3 :=
  ⟨_, _, _, _, Try.underlying26, by kernel_rfl, by kernel_rfl, by kernel_rfl, by kernel_rfl, by kernel_rfl, Try.underlying24, Try.underlying5, Try.underlying22, ⟨rfl, rfl⟩, ⟨rfl, rfl⟩, ⟨rfl, rfl⟩, ⟨rfl, rfl⟩, by kernel_rfl⟩
def eqP (a c : PA) : Bool := decide (a.n = c.n ∧ a.b = c.b ∧ a.c = c.c ∧ a.s = c.s)
theorem eqP_iff {a c : PA} : eqP a c = true ↔ a = c := by
  obtain ⟨n, b, x, y⟩ := a
  obtain ⟨n', b', x', y'⟩ := c
  simp [eqP]
theorem eqA {a c : PA} (ha : okA a) (hc : okA c) (w : World) : (Op.equalIn 10000 26 (.agg (AV a).toArray) (.agg (AV c).toArray)).run Try.prog w = .ok (eqP a c) w := by
  obtain ⟨f0, f1, f2, f3, H⟩ := accT
  exact eq_acc H a.n a.b a.c a.s ha.n ha.b ha.c ha.s ha.cb ha.sb c.n c.b c.c c.s hc.n hc.b hc.c hc.s hc.cb hc.sb w
theorem AV_len {a : PA} (h : okA a) : (AV a).length = 66 := by simp [AVs, h.c, h.s]
theorem infoA {a : PA} (h : okA a) : (Try.prog.info? 26).map (·.size) = some (AV a).toArray.size := by
  rw [List.size_toArray, AV_len h]; kernel_rfl
theorem AV_one (a : PA) : (AV a).toArray.all (·.oneCell') = true := by
  refine all_oneCell_toArray ?_
  intro v hv
  simp only [AVs, List.mem_cons, List.mem_append] at hv
  rcases hv with rfl | rfl | hv | hv
  · rfl
  · rfl
  · exact B8_one2 _ v hv
  · exact B8_one2 _ v hv
/-- The account of which nothing is kept. -/
def eA : PA := ⟨0, 0, dref [], dref [128]⟩
theorem eA_ok : okA eA := ⟨by decide, by decide, dref_len _, dref_isB _, dref_len _, dref_isB _⟩
/-- The zero one. -/
def zA : PA := ⟨0, 0, z32, z32⟩

theorem ol_eqlA {ρ : Operand → Value} {w : World} {x y : Operand} {o : Oper} {x1 y1 : PA} (ho : o.op = .binOp .eql 26 x y 26) (hx : ρ x = .agg (AV x1).toArray) (hy : ρ y = .agg (AV y1).toArray) (lx : okA x1) (ly : okA y1) : (execOp ρ o).run Try.prog w = .ok (.value (.bool (eqP x1 y1))) w := by
  have e := eqA lx ly
  unfold execOp
  rw [ho]
  simp only [hx, hy]
  go_simp
theorem ol_build {ρ : Operand → Value} {w : World} {o : Oper} (t : TypeId) (parts : Array (Nat × Operand)) (ho : o.op = .build t parts) (vals : List (Nat × Value)) (hv : (parts.map fun (i, x) => (i, ρ x)).toList = vals) (cells : Array Value) (hf : Try.prog.built t vals = some cells) : (execOp ρ o).run Try.prog w = .ok (.value (.agg cells)) w := by
  subst hv
  have hr := run_build w t (parts.map fun (i, x) => (i, ρ x)) cells (P := Try.prog) hf
  unfold execOp
  rw [ho]
  simp only [Sem.run_bind, hr, Result.andThen_ok, Sem.run_pure]
theorem built_Aef : (fun (c0 c1 c2 c3 c4 c5 c6 c7 c8 c9 c10 c11 c12 c13 c14 c15 c16 c17 c18 c19 c20 c21 c22 c23 c24 c25 c26 c27 c28 c29 c30 c31 s0 s1 s2 s3 s4 s5 s6 s7 s8 s9 s10 s11 s12 s13 s14 s15 s16 s17 s18 s19 s20 s21 s22 s23 s24 s25 s26 s27 s28 s29 s30 s31 : Int) => Try.prog.built 26 [(2, .agg (B8 [c0, c1, c2, c3, c4, c5, c6, c7, c8, c9, c10, c11, c12, c13, c14, c15, c16, c17, c18, c19, c20, c21, c22, c23, c24, c25, c26, c27, c28, c29, c30, c31])), (3, .agg (B8 [s0, s1, s2, s3, s4, s5, s6, s7, s8, s9, s10, s11, s12, s13, s14, s15, s16, s17, s18, s19, s20, s21, s22, s23, s24, s25, s26, s27, s28, s29, s30, s31]))]) = fun  c0 c1 c2 c3 c4 c5 c6 c7 c8 c9 c10 c11 c12 c13 c14 c15 c16 c17 c18 c19 c20 c21 c22 c23 c24 c25 c26 c27 c28 c29 c30 c31 s0 s1 s2 s3 s4 s5 s6 s7 s8 s9 s10 s11 s12 s13 s14 s15 s16 s17 s18 s19 s20 s21 s22 s23 s24 s25 s26 s27 s28 s29 s30 s31 => some (AVs 0 0 [c0, c1, c2, c3, c4, c5, c6, c7, c8, c9, c10, c11, c12, c13, c14, c15, c16, c17, c18, c19, c20, c21, c22, c23, c24, c25, c26, c27, c28, c29, c30, c31] [s0, s1, s2, s3, s4, s5, s6, s7, s8, s9, s10, s11, s12, s13, s14, s15, s16, s17, s18, s19, s20, s21, s22, s23, s24, s25, s26, s27, s28, s29, s30, s31]).toArray := by kernel_rfl
theorem built_Ae (c s : List Int) (hc : c.length = 32) (hs : s.length = 32) : Try.prog.built 26 [(2, .agg (B8 c)), (3, .agg (B8 s))] = some (AVs 0 0 c s).toArray := by
  match c, s, hc, hs with
  | [c0, c1, c2, c3, c4, c5, c6, c7, c8, c9, c10, c11, c12, c13, c14, c15, c16, c17, c18, c19, c20, c21, c22, c23, c24, c25, c26, c27, c28, c29, c30, c31], [s0, s1, s2, s3, s4, s5, s6, s7, s8, s9, s10, s11, s12, s13, s14, s15, s16, s17, s18, s19, s20, s21, s22, s23, s24, s25, s26, s27, s28, s29, s30, s31], _, _ =>
    have e := built_Aef
    have e := congrFun e c0
    have e := congrFun e c1
    have e := congrFun e c2
    have e := congrFun e c3
    have e := congrFun e c4
    have e := congrFun e c5
    have e := congrFun e c6
    have e := congrFun e c7
    have e := congrFun e c8
    have e := congrFun e c9
    have e := congrFun e c10
    have e := congrFun e c11
    have e := congrFun e c12
    have e := congrFun e c13
    have e := congrFun e c14
    have e := congrFun e c15
    have e := congrFun e c16
    have e := congrFun e c17
    have e := congrFun e c18
    have e := congrFun e c19
    have e := congrFun e c20
    have e := congrFun e c21
    have e := congrFun e c22
    have e := congrFun e c23
    have e := congrFun e c24
    have e := congrFun e c25
    have e := congrFun e c26
    have e := congrFun e c27
    have e := congrFun e c28
    have e := congrFun e c29
    have e := congrFun e c30
    have e := congrFun e c31
    have e := congrFun e s0
    have e := congrFun e s1
    have e := congrFun e s2
    have e := congrFun e s3
    have e := congrFun e s4
    have e := congrFun e s5
    have e := congrFun e s6
    have e := congrFun e s7
    have e := congrFun e s8
    have e := congrFun e s9
    have e := congrFun e s10
    have e := congrFun e s11
    have e := congrFun e s12
    have e := congrFun e s13
    have e := congrFun e s14
    have e := congrFun e s15
    have e := congrFun e s16
    have e := congrFun e s17
    have e := congrFun e s18
    have e := congrFun e s19
    have e := congrFun e s20
    have e := congrFun e s21
    have e := congrFun e s22
    have e := congrFun e s23
    have e := congrFun e s24
    have e := congrFun e s25
    have e := congrFun e s26
    have e := congrFun e s27
    have e := congrFun e s28
    have e := congrFun e s29
    have e := congrFun e s30
    have e := congrFun e s31
    exact e
theorem built_A5 : Try.prog.built 26 [(0, .int .u64 5), (1, .int .u64 1000)] = some (AVs 5 1000 z32 z32).toArray := by kernel_rfl
end Go.Proofs.Ytmaajddofmahpaa
/- What List answers: a list of its own, with the same things. -/
namespace Go.Proofs.Ytmaajddofmahpaa
open Go.RowKit
set_option linter.unusedVariables false
set_option maxRecDepth 100000
theorem run_copy_items (w : World) (ty : TypeId) (g m dc : Nat) (a : Addr) (sCap : Nat) (cur : Array Value) (t : TypeId) (cs : List Value)
    (hg : w.heap[g]? = some (.cells cur t (0, 0))) (hn : cs.length = m * 3) (hsrc : ∀ j v, cs[j]? = some v → w.cell? (a.add j) = some v) (hfit : cs.length = cur.size) (h1 : ∀ v ∈ cs, v.oneCell' = true) :
    (Builtin.copy_ #[44, 44] ty #[.slice (some ⟨g, 0, none⟩) m dc, .slice (some a) m sCap]).run Try.prog w = .ok (goInt m) (w.setRow g cs.toArray) := by
  have hl := run_loadCells_list (P := Try.prog) w a cs hsrc
  have hst := run_storeCells_at Try.prog g 0 t cs 0 cur w hg (by omega) h1
  rw [Nat.zero_add, List.take_zero, List.nil_append, Nat.zero_add, List.drop_of_length_le (by simp [hfit]), List.append_nil] at hst
  rw [hn] at hl
  simp [Builtin.copy_, run_underlying Try.underlying44, Builtin.lenOf, Builtin.firstCells, hl, hst]
theorem run_copy_zero (w : World) (ty : TypeId) (g dc : Nat) (a : Option Addr) (sCap : Nat) (ha : a = none → sCap = 0) :
    (Builtin.copy_ #[44, 44] ty #[.slice (some ⟨g, 0, none⟩) 0 dc, .slice a 0 sCap]).run Try.prog w = .ok (goInt 0) w := by
  cases a with
  | none =>
    rw [ha rfl]
    simp [Builtin.copy_, run_underlying Try.underlying44, Builtin.lenOf, Builtin.firstCells, storeCells]
  | some a =>
    have hl := run_loadCells_list (P := Try.prog) w a [] (fun j v h => by simp at h)
    have hl2 : (loadCells a 0).run Try.prog w = .ok #[] w := by simpa using hl
    simp [Builtin.copy_, run_underlying Try.underlying44, Builtin.lenOf, Builtin.firstCells, storeCells, hl2]
theorem wpl_copyL {w : World} {ops : Array Oper} {rest : List Oper} {o : Oper} {a : Act} {Q : Exit → Act → World → Prop} (hgd : o.guard = none) (d x : Operand)
    (ho : o.op = .call { callee := .builtin .copy, args := #[d, x], argTypes := #[44, 44] }) (v u : Value) (hd : a.eval d = v) (hx : a.eval x = u) {v' : Value} {w' : World}
    (hr : (Builtin.copy_ #[44, 44] o.type #[v, u]).run Try.prog w = .ok v' w') (h : wpList Try.prog ops Q rest (a.put o.dst v') w') : wpList Try.prog ops Q (o :: rest) a w := by
  refine wpList_plain hgd fun K hK => ?_
  unfold Oper.wp
  simp [execOp, ho, resolve, invoke, builtin, hd, hx, hr, Result.andThen]
  exact hK _ _ h
/-- The headers of a list's things. -/
theorem liesAll_row {w : World} {a : Option Addr} : ∀ {ts : List T} {k : Nat}, LiesAll w ts a k → ∃ ys : List V, ys.length = ts.length ∧ ∀ i y, ys[i]? = some y → ∃ g off t, At w a (k + i) t g off y
  | [], k, _ => ⟨[], rfl, fun i y h => by simp at h⟩
  | t :: r, k, h => by
    obtain ⟨⟨g, off, y, h1, h2, h3, h4, h5⟩, hr⟩ := liesAll_cons.1 h
    obtain ⟨ys, e1, e2⟩ := liesAll_row hr
    refine ⟨y :: ys, by rw [List.length_cons, List.length_cons, e1], fun i z hz => ?_⟩
    cases i with
    | zero =>
      have : y = z := by simpa using hz
      subst this
      exact ⟨g, off, t, h1, h2, h3, h4, h5⟩
    | succ i =>
      obtain ⟨g', off', t', A⟩ := e2 i z (by simpa using hz)
      rw [show k + 1 + i = k + (i + 1) from by omega] at A
      exact ⟨g', off', t', A⟩
theorem row_cells {w : World} {g off : Nat} {ys : List V} (h : ∀ i y, ys[i]? = some y → w.cell? ⟨g, off + i * 3, none⟩ = some (.bool y.l) ∧ w.cell? ⟨g, off + i * 3 + 1, none⟩ = some (.slice y.ba y.bn y.bc) ∧ w.cell? ⟨g, off + i * 3 + 2, none⟩ = some (.slice y.ia y.m y.ic)) :
    ∀ j v, (ys.flatMap V.cells)[j]? = some v → w.cell? ((⟨g, off, none⟩ : Addr).add j) = some v := by
  intro j v hv
  rw [addr_add]
  have hj := (List.getElem?_eq_some_iff.1 hv).1
  rw [flat_len] at hj
  obtain ⟨y, hy⟩ : ∃ y, ys[j / 3]? = some y := ⟨ys[j / 3]'(by omega), List.getElem?_eq_getElem _⟩
  have hs := split_get hy
  obtain ⟨q0, q1, q2⟩ := h (j / 3) y hy
  have hlen : (ys.take (j / 3)).length = j / 3 := by rw [List.length_take]; omega
  have hr : j % 3 = 0 ∨ j % 3 = 1 ∨ j % 3 = 2 := by omega
  have hget : ∀ u, (V.cells y)[j % 3]? = some u → (ys.flatMap V.cells)[j]? = some u := by
    intro u hu
    have := flat_get (ys.take (j / 3)) y (ys.drop (j / 3 + 1)) (j % 3) u hu
    rw [← hs, hlen, show j / 3 * 3 + j % 3 = j from by omega] at this
    exact this
  rcases hr with e | e | e
  · have := hget (.bool y.l) (by rw [e]; rfl)
    rw [hv] at this
    rw [Option.some.inj this, show off + j = off + j / 3 * 3 from by omega]
    exact q0
  · have := hget (.slice y.ba y.bn y.bc) (by rw [e]; rfl)
    rw [hv] at this
    rw [Option.some.inj this, show off + j = off + j / 3 * 3 + 1 from by omega]
    exact q1
  · have := hget (.slice y.ia y.m y.ic) (by rw [e]; rfl)
    rw [hv] at this
    rw [Option.some.inj this, show off + j = off + j / 3 * 3 + 2 from by omega]
    exact q2
theorem cells_all (ys : List V) : ∀ v ∈ ys.flatMap V.cells, v.oneCell' = true := by
  intro v hv
  obtain ⟨y, _, hy⟩ := List.mem_flatMap.1 hv
  exact cells_one y v hy
set_option maxHeartbeats 1000000 in
theorem list_any (a : Option Addr) (m c : Nat) (ts : List T) (hm : m = ts.length ∧ m ≤ c ∧ c ≤ maxLen ∧ m ≤ 140737488351232) (w : World) (hall : LiesAll w ts a 0) (hb56 : 56 * m ≤ 281474976710656) (hnil : a = none → c = 0) :
    Calls Try.prog 39 #[.slice a m c] w fun e w' => ∃ ys : List V, ys.length = m ∧ e = .returned (.agg #[.bool true, .slice none 0 0, .slice (some ⟨w.heap.size + 1, 0, none⟩) m m]) ∧ w'.heap[w.heap.size + 1]? = some (.cells (ys.flatMap V.cells).toArray 46) ∧ (∀ i y, ys[i]? = some y → ∃ g off t, At w a i t g off y) ∧ Below w.heap.size w w' := by
  obtain ⟨hm1, hm2, hm3, hm4⟩ := hm
  obtain ⟨ys, hy1, hy2⟩ := liesAll_row hall
  obtain ⟨iI, hi, hz, hsz, hby⟩ := infoI
  have hmk := fun w => run_make (P := Try.prog) w 44 46 iI _ Try.underlying44 hi hz .i64 .i64 m m (by omega) (by omega) (by rw [hby]; omega) (by omega)
  rw [hsz, Int.toNat_natCast] at hmk
  obtain ⟨w0, hw0⟩ : ∃ w0, w.alloc (.cells #[.bool false, .slice none 0 0, .slice none 0 0] 46) = w0 := ⟨_, rfl⟩
  have hs0 : w0.heap.size = w.heap.size + 1 := by rw [← hw0]; simp
  have hbw0 : Below w.heap.size w w0 := by rw [← hw0]; exact below_new _ _
  have hres : w0.heap[w.heap.size]? = some (.cells #[.bool false, .slice none 0 0, .slice none 0 0] 46) := by rw [← hw0]; exact heap_alloc_new _ _
  obtain ⟨MC, hMC⟩ : ∃ MC, madeCells (Value.agg #[.bool false, .slice none 0 0, .slice none 0 0]).cells (m * 3) = MC := ⟨_, rfl⟩
  rw [hMC] at hmk
  have hms : MC.size = m * 3 := by rw [← hMC, size_madeCells]
  have hyl : ys.length = m := by rw [hy1, hm1]
  obtain ⟨w1, hrun, hrow1, hoth, hbel1⟩ : ∃ w1, (∀ ty, (Builtin.copy_ #[44, 44] ty #[.slice (some ⟨w0.heap.size, 0, none⟩) m m, .slice a m c]).run Try.prog (w0.alloc (.cells MC 46)) = .ok (goInt m) w1) ∧ w1.heap[w0.heap.size]? = some (.cells (ys.flatMap V.cells).toArray 46) ∧ w1.heap[w.heap.size]? = some (.cells #[.bool false, .slice none 0 0, .slice none 0 0] 46) ∧ Below w0.heap.size w0 w1 := by
    by_cases h0 : m = 0
    · subst h0
      have hys : ys = [] := List.eq_nil_of_length_eq_zero hyl
      subst hys
      have hMC0 : MC = #[] := Array.eq_empty_of_size_eq_zero (by omega)
      subst hMC0
      exact ⟨_, fun ty => run_copy_zero _ ty _ _ a c hnil, heap_alloc_new _ _, (Below.heap_alloc _ _ _ (by omega)).trans hres, below_new _ _⟩
    · obtain ⟨y0, hy0⟩ : ∃ y, ys[0]? = some y := ⟨ys[0]'(by omega), List.getElem?_eq_getElem _⟩
      obtain ⟨g, off, t, A⟩ := hy2 0 y0 hy0
      have ha := A.ha
      subst ha
      have hbb : Below w.heap.size w (w0.alloc (.cells MC 46)) := hbw0.alloc (by omega) _
      have hcs := row_cells (w := w0.alloc (.cells MC 46)) (g := g) (off := off) (ys := ys) (fun i y h => by
        obtain ⟨g', off', t', A'⟩ := hy2 i y h
        have ha' := A'.ha
        cases ha'
        have c0 := A'.c0
        have c1 := A'.c1
        have c2 := A'.c2
        rw [Nat.zero_add] at c0 c1 c2
        exact ⟨below_cell hbb c0, below_cell hbb c1, below_cell hbb c2⟩)
      refine ⟨_, fun ty => run_copy_items _ ty w0.heap.size m m ⟨g, off, none⟩ c MC 46 (ys.flatMap V.cells) (heap_alloc_new _ _) (by rw [flat_len, hyl]) hcs (by rw [flat_len, hyl, hms]) (cells_all ys), setRow_heap _ _ _ _ _ _ (heap_alloc_new _ _), ?_, ?_⟩
      · rw [setRow_other _ _ _ _ (by omega)]
        exact (Below.heap_alloc _ _ _ (by omega)).trans hres
      · exact Touch.below (below_new _ _) (Touch.setRow _ _ _) (Nat.le_refl _) (by simp)
  rw [hs0] at hrun hrow1
  rw [← hw0] at hrun
  have HRUN := Hid.mk hrun
  have HROW := Hid.mk hrow1
  have HB := Hid.mk (below_go hbw0 hbel1)
  have HRES := Hid.mk hoth
  have x0 : w1.cell? ⟨w.heap.size, 0, none⟩ = some (.bool false) := by rw [cell_of_row _ _ _ _ _ _ hoth]; rfl
  have x1 : w1.cell? ⟨w.heap.size, 1, none⟩ = some (.slice none 0 0) := by rw [cell_of_row _ _ _ _ _ _ hoth]; rfl
  have x2 : w1.cell? ⟨w.heap.size, 2, none⟩ = some (.slice none 0 0) := by rw [cell_of_row _ _ _ _ _ _ hoth]; rfl
  have xf : ∀ o, w1.frozen? ⟨w.heap.size, o, none⟩ = false := fun o => frozen_of_row _ _ _ _ _ hoth
  have HY := Hid.mk hy2
  have HYL := Hid.mk hyl
  clear hrun hrow1 hbel1 hoth hw0 hs0 hbw0 hres hMC hms hall hy1 hy2 hm1 hyl hi hz hsz hby hnil
  go_enter Try.func39, Try.ntmps39
  go_wp2_with (first | refine wpl_copyL rfl _ _ rfl _ _ rfl rfl (HRUN.out _) ?_)
  have hr := put3 HRES.out (.bool true) (.slice none 0 0) (.slice (some ⟨w.heap.size + 1, 0, none⟩) m m)
  refine bodyPost_ret (results_cell_row Try.results39 _ _ w.heap.size 46 _ (0, 0) _ rfl hr Try.underlying46 rfl (by kernel_rfl)) rfl ?_
  exact ⟨ys, HYL.out, rfl, (other3 (by omega) _ _ _).trans HROW.out, fun i y h => by have := HY.out i y h; simpa using this, below3 HB.out (Nat.le_refl _) _ _ _⟩
end Go.Proofs.Ytmaajddofmahpaa

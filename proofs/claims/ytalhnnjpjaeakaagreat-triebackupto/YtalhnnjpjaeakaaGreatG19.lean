/- Steps over references, nodes and digests whole: load, store, the zero value, what is the same. -/
import Derived.Test.YtalhnnjpjaeakaaGreatG18
import Derived.Test.YtalhnnjpjaeakaaGreatRows
import Derived.WalkKit
import Derived.WalkSpells
import Derived.WalkLawsBesides
import Derived.BigQuiet
import Derived.Deep.QuietTactic
import Derived.Handy
import Derived.Deep.RegionHeld3
namespace Go.Proofs.YtalhnnjpjaeakaaGreat
open Go.RowKit
set_option linter.unusedVariables false
set_option maxRecDepth 100000
def B8 (bs : List Int) : Array Value := (bs.map (Value.int .u8)).toArray
theorem B8_size (bs : List Int) : (B8 bs).size = bs.length := by simp [B8]
theorem B8_get (bs : List Int) (k : Nat) (h : k < bs.length) : (B8 bs)[k]? = some (.int .u8 (bs.getD k 0)) := by simp [B8, h]
theorem eq_loop (xs ys : List Int) (hx : xs.length = 32) (hy : ys.length = 32) (d : Nat) : ∀ (n k : Nat) (w : World), k + n = 32 →
    (forIn (m := Sem) (List.range' k n) ((none : Option Bool), ()) fun i _ => do
            let a ← part 5 (B8 xs) (i * 1)
            let b ← part 5 (B8 ys) (i * 1)
            let r ← Op.equalIn (d + 1) 5 a b
            if (!r) = true then pure (ForInStep.done (some false, ())) else pure (ForInStep.yield (none, ()))).run Tryz.prog w =
      .ok (if xs.drop k == ys.drop k then (none, ()) else (some false, ())) w
  | 0, k, w, hk => by
    have e1 : xs.drop k = [] := List.drop_eq_nil_of_le (by omega)
    have e2 : ys.drop k = [] := List.drop_eq_nil_of_le (by omega)
    rw [e1, e2]
    simp
  | n + 1, k, w, hk => by
    have ih := eq_loop xs ys hx hy d n (k + 1) w (by omega)
    have hlx : k < xs.length := by omega
    have hly : k < ys.length := by omega
    have px : (part 5 (B8 xs) (k * 1)).run Tryz.prog w = .ok (.int .u8 (xs.getD k 0)) w := by
      simp only [part, Sem.run_bind, isAgg, run_underlying Tryz.underlying5, Result.andThen_ok, Sem.run_pure, Bool.false_eq_true, if_false, Nat.mul_one, B8_get xs k hlx]
    have py : (part 5 (B8 ys) (k * 1)).run Tryz.prog w = .ok (.int .u8 (ys.getD k 0)) w := by
      simp only [part, Sem.run_bind, isAgg, run_underlying Tryz.underlying5, Result.andThen_ok, Sem.run_pure, Bool.false_eq_true, if_false, Nat.mul_one, B8_get ys k hly]
    have pe := run_equalIn_int w d 5 .u8 .u8 (xs.getD k 0) (ys.getD k 0) (P := Tryz.prog) Tryz.underlying5
    have dx : xs.drop k = xs.getD k 0 :: xs.drop (k + 1) := by rw [List.drop_eq_getElem_cons hlx]; simp [List.getD, List.getElem?_eq_getElem hlx]
    have dy : ys.drop k = ys.getD k 0 :: ys.drop (k + 1) := by rw [List.drop_eq_getElem_cons hly]; simp [List.getD, List.getElem?_eq_getElem hly]
    rw [List.range'_succ, List.forIn_cons]
    simp only [Sem.run_bind, px, py, pe, Result.andThen_ok]
    rw [dx, dy, List.cons_beq_cons]
    cases hc : (xs.getD k 0 == ys.getD k 0) with
    | false => simp
    | true =>
      simp only [Bool.not_true, Bool.false_eq_true, if_false, Sem.run_pure, Result.andThen_ok, Bool.true_and]
      exact ih
theorem eq_arr (xs ys : List Int) (hx : xs.length = 32) (hy : ys.length = 32) (d : Nat) (w : World) :
    (Op.equalIn (d + 1 + 1) 49 (.agg (B8 xs)) (.agg (B8 ys))).run Tryz.prog w = .ok (xs == ys) w := by
  have hs : (Tryz.prog.info? 5).map (·.size) = some 1 := by kernel_rfl
  cases hq : Tryz.prog.info? 5 with
  | none => simp [hq] at hs
  | some y =>
    have hy1 : y.size = 1 := by simpa [hq] using hs
    rw [Op.equalIn]
    simp only [Sem.run_bind, run_underlying Tryz.underlying49, Result.andThen_ok, sizeOf, typeInfo, run_program, hq, hy1, Sem.run_pure]
    have e := eq_loop xs ys hx hy d 32 0 w (by omega)
    rw [Std.Legacy.Range.forIn_eq_forIn_range']
    simp only [Std.Legacy.Range.size, List.drop_zero] at e ⊢
    rw [show (32 - 0 + 1 - 1) / 1 = 32 from rfl]
    rw [e]
    cases xs == ys <;> simp
theorem eqD (xs ys : List Int) (hx : xs.length = 32) (hy : ys.length = 32) (w : World) : (Op.equalIn 10000 49 (.agg (B8 xs)) (.agg (B8 ys))).run Tryz.prog w = .ok (xs == ys) w := eq_arr xs ys hx hy 9998 w
section
variable {w : World} {ops : Array Oper} {rest : List Oper} {o : Oper} {a : Act} {Q : Exit → Act → World → Prop}
theorem wants (hw : Region.wanted o (yielded ops a.tmps) = true) (h : ∀ K : Act → World → Prop, (∀ a w, wpList Tryz.prog ops Q rest a w → K a w) → o.wp Tryz.prog a w K Q) : wpList Tryz.prog ops Q (o :: rest) a w :=
  wpList_step fun K hK => by rw [if_pos hw]; exact h K hK
theorem wpl_eqD (hw : Region.wanted o (yielded ops a.tmps) = true) (x y : Operand) (ho : o.op = .binOp .eql 49 x y 49) (xs ys : List Int) (hx : a.eval x = .agg (B8 xs)) (hy : a.eval y = .agg (B8 ys)) (lx : xs.length = 32) (ly : ys.length = 32) (q : Bool) (hq : (xs == ys) = q)
    (h : wpList Tryz.prog ops Q rest (a.put o.dst (.bool q)) w) : wpList Tryz.prog ops Q (o :: rest) a w := by
  subst hq
  refine wants hw fun K hK => ?_
  have e := eqD xs ys lx ly
  unfold Oper.wp execOp
  simp only [ho, hx, hy]
  go_simp
  exact hK _ _ h
theorem wpl_neD (hw : Region.wanted o (yielded ops a.tmps) = true) (x y : Operand) (ho : o.op = .binOp .neq 49 x y 49) (xs ys : List Int) (hx : a.eval x = .agg (B8 xs)) (hy : a.eval y = .agg (B8 ys)) (lx : xs.length = 32) (ly : ys.length = 32) (q : Bool) (hq : (!(xs == ys)) = q)
    (h : wpList Tryz.prog ops Q rest (a.put o.dst (.bool q)) w) : wpList Tryz.prog ops Q (o :: rest) a w := by
  subst hq
  refine wants hw fun K hK => ?_
  have e := eqD xs ys lx ly
  unfold Oper.wp execOp
  simp only [ho, hx, hy]
  go_simp
  exact hK _ _ h
theorem wpl_load (hw : Region.wanted o (yielded ops a.tmps) = true) (ty : TypeId) (x : Operand) (ho : o.op = .load ty x) (b off : Nat) (hx : a.eval x = .pointer (some ⟨b, off, none⟩)) (cs : List Value) (d : TypeDesc) (hc : w.rangeAt b off cs)
    (hu : Tryz.prog.underlying ty = some d) (hd : d.isRow = true) (hi : (Tryz.prog.info? ty).map (·.size) = some cs.length) (h : wpList Tryz.prog ops Q rest (a.put o.dst (.agg cs.toArray)) w) : wpList Tryz.prog ops Q (o :: rest) a w :=
  wants hw fun _ hK => wp_load_mid ty x ho b off hx cs d hc hu hd hi (hK _ _ h)
theorem wpl_loadN (hw : Region.wanted o (yielded ops a.tmps) = true) (x : Operand) (ho : o.op = .load 92 x) (b : Nat) (hx : a.eval x = .pointer (some ⟨b, 0, none⟩)) (y : NV) (hc : NBx b w y)
    (h : wpList Tryz.prog ops Q rest (a.put o.dst (.agg y.cells.toArray)) w) : wpList Tryz.prog ops Q (o :: rest) a w :=
  wpl_load hw 92 x ho b 0 hx y.cells _ hc.all Tryz.underlying92 rfl (by rw [infoN, NV.len hc.l]) h
theorem wpl_loadR (hw : Region.wanted o (yielded ops a.tmps) = true) (x : Operand) (ho : o.op = .load 62 x) (b off : Nat) (hx : a.eval x = .pointer (some ⟨b, off, none⟩)) (y : RV) (hl : y.d.length = 32) (hc : w.rangeAt b off y.cells)
    (h : wpList Tryz.prog ops Q rest (a.put o.dst (.agg y.cells.toArray)) w) : wpList Tryz.prog ops Q (o :: rest) a w :=
  wpl_load hw 62 x ho b off hx y.cells _ hc Tryz.underlying62 rfl (by rw [infoR, RV.len hl]) h
theorem wpl_loadD (hw : Region.wanted o (yielded ops a.tmps) = true) (x : Operand) (ho : o.op = .load 49 x) (b off : Nat) (hx : a.eval x = .pointer (some ⟨b, off, none⟩)) (ds : List Int) (hl : ds.length = 32) (hc : w.rangeAt b off (ds.map (Value.int .u8)))
    (h : wpList Tryz.prog ops Q rest (a.put o.dst (.agg (B8 ds))) w) : wpList Tryz.prog ops Q (o :: rest) a w :=
  wpl_load hw 49 x ho b off hx (ds.map (Value.int .u8)) _ hc Tryz.underlying49 rfl (by rw [infoD, List.length_map, hl]) h
theorem wpl_build (hw : Region.wanted o (yielded ops a.tmps) = true) (t : TypeId) (parts : Array (Nat × Operand)) (ho : o.op = .build t parts) (cells : Array Value) (hf : Tryz.prog.built t (parts.map fun (i, x) => (i, a.eval x)).toList = some cells)
    (h : wpList Tryz.prog ops Q rest (a.put o.dst (.agg cells)) w) : wpList Tryz.prog ops Q (o :: rest) a w := by
  exact wants hw fun _ hK => wp_build t parts ho (by rw [hf]; rfl) (by rw [hf]; exact hK _ _ h)
end
theorem built_D : Tryz.prog.built 49 [] = some (B8 z32) := by kernel_rfl
theorem built_N : Tryz.prog.built 92 [] = some nz.cells.toArray := by kernel_rfl
theorem built_R : Tryz.prog.built 62 [] = some rz.cells.toArray := by kernel_rfl
theorem built_R1f : (fun (a : Option Addr) (n c : Nat) => Tryz.prog.built 62 [(0, .int .i64 1), (2, .slice a n c)]) = fun a n c => some (RV.cells ⟨1, z32, a, n, c⟩).toArray := by kernel_rfl
theorem built_R1 (a : Option Addr) (n c : Nat) : Tryz.prog.built 62 [(0, .int .i64 1), (2, .slice a n c)] = some (RV.cells ⟨1, z32, a, n, c⟩).toArray := congrFun (congrFun (congrFun built_R1f a) n) c
theorem built_R2 : Tryz.prog.built 62 [(0, .int .i64 2)] = some (RV.cells ⟨2, z32, none, 0, 0⟩).toArray := by kernel_rfl
theorem built_N1f : (fun (pa : Option Addr) (pn pc : Nat) (va : Option Addr) (vn vc : Nat) => Tryz.prog.built 92 [(0, .int .i64 1), (1, .slice pa pn pc), (2, .slice va vn vc)]) = fun pa pn pc va vn vc => some (NV.cells ⟨1, pa, pn, pc, va, vn, vc, rz, none, 0, 0⟩).toArray := by kernel_rfl
theorem built_N1 (pa : Option Addr) (pn pc : Nat) (va : Option Addr) (vn vc : Nat) : Tryz.prog.built 92 [(0, .int .i64 1), (1, .slice pa pn pc), (2, .slice va vn vc)] = some (NV.cells ⟨1, pa, pn, pc, va, vn, vc, rz, none, 0, 0⟩).toArray := congrFun (congrFun (congrFun (congrFun (congrFun (congrFun built_N1f pa) pn) pc) va) vn) vc
theorem built_N3f : (fun (va : Option Addr) (vn vc : Nat) (ka : Option Addr) (kn kc : Nat) => Tryz.prog.built 92 [(0, .int .i64 3), (2, .slice va vn vc), (4, .slice ka kn kc)]) = fun va vn vc ka kn kc => some (NV.cells ⟨3, none, 0, 0, va, vn, vc, rz, ka, kn, kc⟩).toArray := by kernel_rfl
theorem built_N3 (va : Option Addr) (vn vc : Nat) (ka : Option Addr) (kn kc : Nat) : Tryz.prog.built 92 [(0, .int .i64 3), (2, .slice va vn vc), (4, .slice ka kn kc)] = some (NV.cells ⟨3, none, 0, 0, va, vn, vc, rz, ka, kn, kc⟩).toArray := congrFun (congrFun (congrFun (congrFun (congrFun (congrFun built_N3f va) vn) vc) ka) kn) kc
theorem built_N2f : (fun (pa : Option Addr) (pn pc : Nat) (k : Int) (a : Option Addr) (n c : Nat) (d0 d1 d2 d3 d4 d5 d6 d7 d8 d9 d10 d11 d12 d13 d14 d15 d16 d17 d18 d19 d20 d21 d22 d23 d24 d25 d26 d27 d28 d29 d30 d31 : Int) => Tryz.prog.built 92 [(0, .int .i64 2), (1, .slice pa pn pc), (3, .agg (RV.cells ⟨k, [d0, d1, d2, d3, d4, d5, d6, d7, d8, d9, d10, d11, d12, d13, d14, d15, d16, d17, d18, d19, d20, d21, d22, d23, d24, d25, d26, d27, d28, d29, d30, d31], a, n, c⟩).toArray)]) =
    fun pa pn pc k a n c d0 d1 d2 d3 d4 d5 d6 d7 d8 d9 d10 d11 d12 d13 d14 d15 d16 d17 d18 d19 d20 d21 d22 d23 d24 d25 d26 d27 d28 d29 d30 d31 => some (NV.cells ⟨2, pa, pn, pc, none, 0, 0, ⟨k, [d0, d1, d2, d3, d4, d5, d6, d7, d8, d9, d10, d11, d12, d13, d14, d15, d16, d17, d18, d19, d20, d21, d22, d23, d24, d25, d26, d27, d28, d29, d30, d31], a, n, c⟩, none, 0, 0⟩).toArray := by kernel_rfl
theorem built_N2 (pa : Option Addr) (pn pc : Nat) (r : RV) (h : r.d.length = 32) : Tryz.prog.built 92 [(0, .int .i64 2), (1, .slice pa pn pc), (3, .agg r.cells.toArray)] = some (NV.cells ⟨2, pa, pn, pc, none, 0, 0, r, none, 0, 0⟩).toArray := by
  obtain ⟨k, d, a, n, c⟩ := r
  match d, h with
  | [d0, d1, d2, d3, d4, d5, d6, d7, d8, d9, d10, d11, d12, d13, d14, d15, d16, d17, d18, d19, d20, d21, d22, d23, d24, d25, d26, d27, d28, d29, d30, d31], _ =>
    have e := built_N2f
    have e := congrFun e pa
    have e := congrFun e pn
    have e := congrFun e pc
    have e := congrFun e k
    have e := congrFun e a
    have e := congrFun e n
    have e := congrFun e c
    have e := congrFun e d0
    have e := congrFun e d1
    have e := congrFun e d2
    have e := congrFun e d3
    have e := congrFun e d4
    have e := congrFun e d5
    have e := congrFun e d6
    have e := congrFun e d7
    have e := congrFun e d8
    have e := congrFun e d9
    have e := congrFun e d10
    have e := congrFun e d11
    have e := congrFun e d12
    have e := congrFun e d13
    have e := congrFun e d14
    have e := congrFun e d15
    have e := congrFun e d16
    have e := congrFun e d17
    have e := congrFun e d18
    have e := congrFun e d19
    have e := congrFun e d20
    have e := congrFun e d21
    have e := congrFun e d22
    have e := congrFun e d23
    have e := congrFun e d24
    have e := congrFun e d25
    have e := congrFun e d26
    have e := congrFun e d27
    have e := congrFun e d28
    have e := congrFun e d29
    have e := congrFun e d30
    have e := congrFun e d31
    exact e
end Go.Proofs.YtalhnnjpjaeakaaGreat
/- More steps through a drawn region: a store, a build, loads of whole references, nodes and items. -/
namespace Go.Proofs.YtalhnnjpjaeakaaGreat
open Go.RowKit
set_option linter.unusedVariables false
set_option maxRecDepth 100000
section
variable {md : Region.Mode} {ops : Array Oper} {Q : Exit → Act → World → Prop} {S : World → Prop} {fuel : Nat} {listed : Array Bool} {a : Act} {w : World}
/-- An operation that hands nothing on (a store). -/
theorem rd_run0 (i : Nat) {rs : List Nat} {w' : World} {o : Oper} (ho : ops[i]? = some o) (hd : o.dst = none) (hg : Region.wanted o (yielded ops a.tmps) = true) (hrun : (execOp a.eval o).run Tryz.prog w = .ok .skip w') (hS : S w')
    (h : wpAnyH Tryz.prog md ops Q S fuel (listed.setIfInBounds i true) a w') (hs : AllReadyH Tryz.prog md ops Q S fuel listed a w rs) : AllReadyH Tryz.prog md ops Q S fuel listed a w (i :: rs) :=
  AllReadyH.cons ho (fun K hK => by
    rw [if_pos hg]
    unfold Oper.wp
    rw [hrun, Oper.upon_skip]
    exact hK _ _ hS (fun _ => by rw [hd]; exact h)) hs
end
section
variable {ops : Array Oper} {Q : Exit → Act → World → Prop} {a : Act} {w w' : World} {rest : List Oper} {o : Oper}
theorem wl_region {id : Nat} (l : List Oper) (hl : ∀ j, l[j]? = ops[0 + j]?) (hn : ops.size = l.length) (h : wpList Tryz.prog ops Q l a w) : (Code.region id ops false).wp Tryz.prog Q a w := by
  refine wp_region ?_
  rw [hn, List.range_eq_range', wpOps_eq_wpList l 0 hl]
  exact h
theorem wl_run (d : Nat) (v : Value) (hd : o.dst = some d) (hw : Region.wanted o (yielded ops a.tmps) = true) (hrun : (execOp a.eval o).run Tryz.prog w = .ok (.value v) w') (h : wpList Tryz.prog ops Q rest (a.put (some d) v) w') : wpList Tryz.prog ops Q (o :: rest) a w :=
  wants hw fun K hK => by
    unfold Oper.wp
    rw [hrun, Oper.upon_value, hd]
    exact hK _ _ h
theorem wl_pure (d : Nat) (v : Value) (hd : o.dst = some d) (hw : Region.wanted o (yielded ops a.tmps) = true) (hrun : (execOp a.eval o).run Tryz.prog w = .ok (.value v) w) (h : wpList Tryz.prog ops Q rest (a.put (some d) v) w) : wpList Tryz.prog ops Q (o :: rest) a w := wl_run d v hd hw hrun h
theorem wl_skip (hd : o.dst = none) (hw : Region.wanted o (yielded ops a.tmps) = true) (hrun : (execOp a.eval o).run Tryz.prog w = .ok .skip w') (h : wpList Tryz.prog ops Q rest a w') : wpList Tryz.prog ops Q (o :: rest) a w :=
  wants hw fun K hK => by
    unfold Oper.wp
    rw [hrun, Oper.upon_skip, hd]
    exact hK _ _ h
theorem wl_call (d : Nat) (hd : o.dst = some d) (hw : Region.wanted o (yielded ops a.tmps) = true) (f : FuncId) (args : Array Value) (hrun : (execOp a.eval o).run Tryz.prog w = .ok (.enter f args) w)
    {R : Value → World → Prop} (hc : Calls Tryz.prog f args w fun e w' => ∃ v, e = .returned v ∧ R v w') (h : ∀ v w', R v w' → wpList Tryz.prog ops Q rest (a.put (some d) v) w') : wpList Tryz.prog ops Q (o :: rest) a w :=
  wants hw fun K hK => by
    unfold Oper.wp
    rw [hrun, Oper.upon_enter]
    refine hc.mono ?_
    rintro e w' ⟨v, rfl, hR⟩
    rw [hd]
    exact hK _ _ (h v w' hR)
end
section
variable {a : Act} {w : World}
theorem rd_build (t : TypeId) (parts : Array (Nat × Operand)) {o : Oper} (ho : o.op = .build t parts) (vals : List (Nat × Value)) (hv : (parts.map fun (i, x) => (i, a.eval x)).toList = vals) (cells : Array Value) (hf : Tryz.prog.built t vals = some cells) :
    (execOp a.eval o).run Tryz.prog w = .ok (.value (.agg cells)) w := by
  subst hv
  have hr := run_build w t (parts.map fun (i, x) => (i, a.eval x)) cells (P := Tryz.prog) hf
  unfold execOp
  rw [ho]
  simp only [Sem.run_bind, hr, Result.andThen_ok, Sem.run_pure]
theorem rd_store (ty : TypeId) (x y : Operand) {o : Oper} (ho : o.op = .store ty x y) (g : Nat) (cells : Array Value) (hx : a.eval x = .pointer (some ⟨g, 0, none⟩)) (hy : a.eval y = .agg cells) (t : TypeId) (old : Array Value)
    (hg : w.heap[g]? = some (.cells old t (0, 0))) (hi : (Tryz.prog.info? ty).map (·.size) = some cells.size) (hold : old.size = cells.size) (h1 : cells.all (·.oneCell') = true) :
    (execOp a.eval o).run Tryz.prog w = .ok .skip (w.setRow g cells) := by
  unfold execOp
  rw [ho]
  simp only [hx, hy, Instr.storeAt, Instr.sureAddr, Sem.run_bind, Sem.run_pure, Result.andThen_ok, run_storeVar_row w g t ty old cells hg hi hold h1]
theorem rd_loadRow (ty : TypeId) (x : Operand) {o : Oper} (ho : o.op = .load ty x) (b off : Nat) (hx : a.eval x = .pointer (some ⟨b, off, none⟩)) (cs : List Value) (d : TypeDesc) (hc : w.rangeAt b off cs) (hu : Tryz.prog.underlying ty = some d) (hd : d.isRow = true) (hi : (Tryz.prog.info? ty).map (·.size) = some cs.length) :
    (execOp a.eval o).run Tryz.prog w = .ok (.value (.agg cs.toArray)) w := by
  unfold execOp
  simp only [ho, hx, Instr.loadAt, Instr.sureAddr, Sem.run_bind, Sem.run_pure, Result.andThen_ok, run_loadVar_mid w b off ty cs d hc hu hd hi]
theorem rd_loadNn {x : Operand} {o : Oper} (ho : o.op = .load 92 x) {b : Nat} (hx : a.eval x = .pointer (some ⟨b, 0, none⟩)) {y : NV} (hc : NBx b w y) : (execOp a.eval o).run Tryz.prog w = .ok (.value (.agg y.cells.toArray)) w :=
  rd_loadRow 92 x ho b 0 hx y.cells _ hc.all Tryz.underlying92 rfl (by rw [infoN, NV.len hc.l])
theorem rd_loadRr {x : Operand} {o : Oper} (ho : o.op = .load 62 x) {b off : Nat} (hx : a.eval x = .pointer (some ⟨b, off, none⟩)) {y : RV} (hl : y.d.length = 32) (hc : w.rangeAt b off y.cells) : (execOp a.eval o).run Tryz.prog w = .ok (.value (.agg y.cells.toArray)) w :=
  rd_loadRow 62 x ho b off hx y.cells _ hc Tryz.underlying62 rfl (by rw [infoR, RV.len hl])
end
end Go.Proofs.YtalhnnjpjaeakaaGreat
/- What one round, the xor of four words, and the eight rounds of package digest (functions round, xor, stir) answer, for every input; and the plain functions that say it. -/
namespace Go.Proofs.YtalhnnjpjaeakaaGreat.Di
set_option maxRecDepth 100000
open Go.RowKit
/-- Four words. -/
structure S4 where
  a : Int
  b : Int
  c : Int
  d : Int
def wr (x : Int) : Int := IntKind.u64.wrap x
def rotl (x k : Int) : Int := bits BinOp.or IntKind.u64 (IntKind.u64.wrap (x * 2 ^ k.toNat)) (x / 2 ^ (64 - k).toNat)
def xr (x y : Int) : Int := bits BinOp.xor IntKind.u64 x y
def rnd (s : S4) (x : Int) : S4 :=
  let a := wr (s.a + wr (s.b + x))
  let d := rotl (xr s.d a) 32
  let c := wr (s.c + d)
  let b := rotl (xr s.b c) 24
  let a := wr (a + b)
  let d := rotl (xr d a) 16
  let c := wr (c + d)
  let b := rotl (xr b c) 63
  ⟨b, c, d, a⟩
def xor4 (s m : S4) : S4 := ⟨xr s.a m.a, xr s.b m.b, xr s.c m.c, xr s.d m.d⟩
def kk : Int := 11400714819323198485
def stir (s m : S4) : S4 :=
  let s := rnd s (wr (m.a + wr (1 * kk)))
  let s := rnd s (wr (m.b + wr (2 * kk)))
  let s := rnd s (wr (m.c + wr (3 * kk)))
  let s := rnd s (wr (m.d + wr (4 * kk)))
  let s := rnd s (wr (m.a + wr (5 * kk)))
  let s := rnd s (wr (m.b + wr (6 * kk)))
  let s := rnd s (wr (m.c + wr (7 * kk)))
  rnd s (wr (m.d + wr (8 * kk)))
def mix (s m : S4) : S4 := xor4 (stir (xor4 s m) m) s
theorem b32 : bits BinOp.and IntKind.u64 32 63 = 32 := by decide
theorem b24 : bits BinOp.and IntKind.u64 24 63 = 24 := by decide
theorem b16 : bits BinOp.and IntKind.u64 16 63 = 16 := by decide
theorem b63 : bits BinOp.and IntKind.u64 63 63 = 63 := by decide
set_option maxHeartbeats 400000 in
theorem rotc (x : Int) (w : World) (k : Int) (hk0 : 0 ≤ k) (hk1 : k < 64) (hkk : bits BinOp.and IntKind.u64 k 63 = k) :
    Calls Tryz.prog 146 #[.int .u64 x, .int .i64 k] w fun e w' => e = .returned (.int .u64 (rotl x k)) ∧ w' = w := by
  go_enter Tryz.func146, Tryz.ntmps146
  go_wp2
  go_ret
  exact ⟨rfl, rfl⟩

set_option maxHeartbeats 400000 in
theorem round_any (a b c d x : Int) (w : World) :
    Calls Tryz.prog 137 #[.agg #[.int .u64 a, .int .u64 b, .int .u64 c, .int .u64 d], .int .u64 x] w fun e w' => (∃ a' b' c' d', e = .returned (.agg #[.int .u64 a', .int .u64 b', .int .u64 c', .int .u64 d']) ∧ Hid (S4.mk a' b' c' d' = rnd ⟨a, b, c, d⟩ x)) ∧ Below w.heap.size w w' := by
  go_enter Tryz.func137, Tryz.ntmps137
  go_wp2_with fail
  go_quiet (fail)
  go_wp2_with (first | (go_at_call 146; refine (rotc _ _ _ (by omega) (by omega) (by first | exact b32 | exact b24 | exact b16 | exact b63)).mono ?_; rintro e w' ⟨rfl, rfl⟩))
  go_returns
  refine ⟨⟨_, _, _, _, rfl, rfl⟩, ?_⟩
  repeat' (first | refine Below.setCell ?_ (by simp <;> omega) _ | refine below_drewN ?_ _ | refine Below.alloc ?_ (by simp <;> omega) _ | exact Below.refl _ _)

set_option maxHeartbeats 400000 in
theorem xor_any (a b c d x y z u : Int) (w : World) :
    Calls Tryz.prog 115 #[.agg #[.int .u64 a, .int .u64 b, .int .u64 c, .int .u64 d], .agg #[.int .u64 x, .int .u64 y, .int .u64 z, .int .u64 u]] w fun e w' => (∃ a' b' c' d', e = .returned (.agg #[.int .u64 a', .int .u64 b', .int .u64 c', .int .u64 d']) ∧ Hid (S4.mk a' b' c' d' = xor4 ⟨a, b, c, d⟩ ⟨x, y, z, u⟩)) ∧ Below w.heap.size w w' := by
  have i0 : ∀ (w : World) (x0 x1 x2 x3 : Value), (Instr.index 113 (.agg #[x0, x1, x2, x3]) (.int .i64 0)).run Tryz.prog w = .ok x0 w := fun _ _ _ _ _ => by kernel_rfl
  have i1 : ∀ (w : World) (x0 x1 x2 x3 : Value), (Instr.index 113 (.agg #[x0, x1, x2, x3]) (.int .i64 1)).run Tryz.prog w = .ok x1 w := fun _ _ _ _ _ => by kernel_rfl
  have i2 : ∀ (w : World) (x0 x1 x2 x3 : Value), (Instr.index 113 (.agg #[x0, x1, x2, x3]) (.int .i64 2)).run Tryz.prog w = .ok x2 w := fun _ _ _ _ _ => by kernel_rfl
  have i3 : ∀ (w : World) (x0 x1 x2 x3 : Value), (Instr.index 113 (.agg #[x0, x1, x2, x3]) (.int .i64 3)).run Tryz.prog w = .ok x3 w := fun _ _ _ _ _ => by kernel_rfl
  go_enter Tryz.func115, Tryz.ntmps115
  go_wp2
  go_rounds 5
  go_returns
  refine ⟨⟨_, _, _, _, rfl, rfl⟩, ?_⟩
  repeat' (first | refine Below.setCell ?_ (by simp <;> omega) _ | refine below_drewN ?_ _ | refine Below.alloc ?_ (by simp <;> omega) _ | exact Below.refl _ _)

/-- Three new blocks of four words each, from block n on; what was there ahead of them is as it was. -/
structure Rows3 (n : Nat) (w0 w : World) (r2 r3 r4 : Array Value) : Prop where
  h2 : w.heap[n]? = some (.cells r2 113)
  h3 : w.heap[n + 1]? = some (.cells r3 113)
  h4 : w.heap[n + 1 + 1]? = some (.cells r4 113)
  bel : Below n w0 w
theorem Hid.mk {p : Prop} (h : p) : Hid p := h
theorem lt_of_get {α : Type} {xs : Array α} {i : Nat} {x : α} (h : xs[i]? = some x) : i < xs.size := (Array.getElem?_eq_some_iff.1 h).1
theorem Rows3.call {n : Nat} {w0 v w1 : World} {r2 r3 r4 : Array Value} (h : Rows3 n w0 v r2 r3 r4) (hb : Below v.heap.size v w1) : Rows3 n w0 w1 r2 r3 r4 := by
  have l := lt_of_get h.h4
  exact ⟨(hb.block _ (by omega)).trans h.h2, (hb.block _ (by omega)).trans h.h3, (hb.block _ (by omega)).trans h.h4, h.bel.trans (hb.mono (by omega))⟩
theorem cells4 {w : World} {g t : Nat} {x0 x1 x2 x3 : Value} (h : w.heap[g]? = some (.cells #[x0, x1, x2, x3] t)) :
    w.cell? ⟨g, 0, none⟩ = some x0 ∧ w.cell? ⟨g, 1, none⟩ = some x1 ∧ w.cell? ⟨g, 2, none⟩ = some x2 ∧ w.cell? ⟨g, 3, none⟩ = some x3 ∧ ∀ o, w.frozen? ⟨g, o, none⟩ = false :=
  ⟨by simp [World.cell?, h], by simp [World.cell?, h], by simp [World.cell?, h], by simp [World.cell?, h], fun o => frozen_of_row w g o _ t h⟩
theorem put4 {w : World} {g t : Nat} {x0 x1 x2 x3 : Value} (h : w.heap[g]? = some (.cells #[x0, x1, x2, x3] t)) (a b c d : Value) :
    ((((w.setCell ⟨g, 0, none⟩ a).setCell ⟨g, 1, none⟩ b).setCell ⟨g, 2, none⟩ c).setCell ⟨g, 3, none⟩ d).heap[g]? = some (.cells #[a, b, c, d] t) := by
  have h1 := heap_setCell_same w g 0 _ t a h
  have h2 := heap_setCell_same _ g 1 _ t b h1
  have h3 := heap_setCell_same _ g 2 _ t c h2
  have h4 := heap_setCell_same _ g 3 _ t d h3
  simpa using h4
theorem other4 {w : World} {g k : Nat} (hk : k ≠ g) (a b c d : Value) :
    ((((w.setCell ⟨g, 0, none⟩ a).setCell ⟨g, 1, none⟩ b).setCell ⟨g, 2, none⟩ c).setCell ⟨g, 3, none⟩ d).heap[k]? = w.heap[k]? := by
  rw [heap_setCell_other _ _ _ _ hk, heap_setCell_other _ _ _ _ hk, heap_setCell_other _ _ _ _ hk, heap_setCell_other _ _ _ _ hk]
theorem below4 {B : Nat} {w0 w : World} {g : Nat} (h : Below B w0 w) (hg : B ≤ g) (a b c d : Value) :
    Below B w0 ((((w.setCell ⟨g, 0, none⟩ a).setCell ⟨g, 1, none⟩ b).setCell ⟨g, 2, none⟩ c).setCell ⟨g, 3, none⟩ d) :=
  (((h.setCell hg a).setCell hg b).setCell hg c).setCell hg d
theorem Rows3.put {n : Nat} {w0 w : World} {x0 x1 x2 x3 : Value} {r3 r4 : Array Value} (h : Rows3 n w0 w #[x0, x1, x2, x3] r3 r4) (a b c d : Value) :
    Rows3 n w0 ((((w.setCell ⟨n, 0, none⟩ a).setCell ⟨n, 1, none⟩ b).setCell ⟨n, 2, none⟩ c).setCell ⟨n, 3, none⟩ d) #[a, b, c, d] r3 r4 :=
  ⟨put4 h.h2 a b c d, (other4 (by omega) a b c d).trans h.h3, (other4 (by omega) a b c d).trans h.h4, below4 h.bel (Nat.le_refl _) a b c d⟩
theorem rows3_new (w : World) (A B C : Array Value) : Rows3 w.heap.size w (((w.alloc (.cells A 113)).alloc (.cells B 113)).alloc (.cells C 113)) A B C := by
  have s1 : (w.alloc (.cells A 113)).heap.size = w.heap.size + 1 := by simp
  have s2 : ((w.alloc (.cells A 113)).alloc (.cells B 113)).heap.size = w.heap.size + 1 + 1 := by simp
  have h1 := heap_alloc_new w (.cells A 113)
  have h2 := heap_alloc_new (w.alloc (.cells A 113)) (.cells B 113)
  have h3 := heap_alloc_new ((w.alloc (.cells A 113)).alloc (.cells B 113)) (.cells C 113)
  rw [s1] at h2
  rw [s2] at h3
  exact ⟨by rw [Below.heap_alloc _ _ _ (by omega), Below.heap_alloc _ _ _ (by omega)]; exact h1, by rw [Below.heap_alloc _ _ _ (by omega)]; exact h2, h3,
   (((Below.refl _ _).alloc (Nat.le_refl _) _).alloc (by omega) _).alloc (by omega) _⟩
theorem Rows3.drew {n : Nat} {w0 w : World} {r2 r3 r4 : Array Value} (h : Rows3 n w0 w r2 r3 r4) : Rows3 n w0 w.drew r2 r3 r4 := ⟨h.h2, h.h3, h.h4, h.bel.drew⟩
theorem Rows3.alloc {n : Nat} {w0 w : World} {r2 r3 r4 : Array Value} (h : Rows3 n w0 w r2 r3 r4) (o : Obj) : Rows3 n w0 (w.alloc o) r2 r3 r4 := by
  have l := lt_of_get h.h4
  exact ⟨(Below.heap_alloc _ _ _ (by omega)).trans h.h2, (Below.heap_alloc _ _ _ (by omega)).trans h.h3, (Below.heap_alloc _ _ _ (by omega)).trans h.h4, h.bel.alloc (by omega) _⟩
theorem Rows3.size {n : Nat} {w0 w : World} {r2 r3 r4 : Array Value} (h : Rows3 n w0 w r2 r3 r4) : n + 1 + 1 < w.heap.size := lt_of_get h.h4
theorem Rows3.putAt {n : Nat} {w0 w : World} {r2 r3 r4 : Array Value} (h : Rows3 n w0 w r2 r3 r4) {g : Nat} (hg : n + 1 + 1 < g) (a b c d : Value) :
    Rows3 n w0 ((((w.setCell ⟨g, 0, none⟩ a).setCell ⟨g, 1, none⟩ b).setCell ⟨g, 2, none⟩ c).setCell ⟨g, 3, none⟩ d) r2 r3 r4 :=
  ⟨(other4 (by omega) a b c d).trans h.h2, (other4 (by omega) a b c d).trans h.h3, (other4 (by omega) a b c d).trans h.h4, below4 h.bel (by omega) a b c d⟩
theorem Below.row {W w1 : World} (hb : Below W.heap.size W w1) {g : Nat} {o : Obj} (h : W.heap[g]? = some o) : w1.heap[g]? = some o := (hb.block g (lt_of_get h)).trans h
theorem Rows3.sizes {n : Nat} {w0 w : World} {r2 r3 r4 : Array Value} (h : Rows3 n w0 w r2 r3 r4) : n < w.heap.size ∧ n + 1 < w.heap.size ∧ n + 1 + 1 < w.heap.size := by
  have l := lt_of_get h.h4
  omega
theorem rows3_fourth (w : World) (A B C D : Obj) : Hid ((((((w.alloc A).alloc B).alloc C).alloc D).heap[w.heap.size + 1 + 1 + 1]?) = some D) := by
  have s3 : (((w.alloc A).alloc B).alloc C).heap.size = w.heap.size + 1 + 1 + 1 := by simp
  have h := heap_alloc_new (((w.alloc A).alloc B).alloc C) D
  rw [s3] at h
  exact h
theorem stir_of {a b c d x y z u : Int} {s1 s2 s3 s4 s5 s6 s7 s8 : S4}
    (h1 : s1 = rnd ⟨a, b, c, d⟩ (IntKind.u64.wrap (x + 11400714819323198485)))
    (h2 : s2 = rnd s1 (IntKind.u64.wrap (y + IntKind.u64.wrap 22801429638646396970)))
    (h3 : s3 = rnd s2 (IntKind.u64.wrap (z + IntKind.u64.wrap 34202144457969595455)))
    (h4 : s4 = rnd s3 (IntKind.u64.wrap (u + IntKind.u64.wrap 45602859277292793940)))
    (h5 : s5 = rnd s4 (IntKind.u64.wrap (x + IntKind.u64.wrap 57003574096615992425)))
    (h6 : s6 = rnd s5 (IntKind.u64.wrap (y + IntKind.u64.wrap 68404288915939190910)))
    (h7 : s7 = rnd s6 (IntKind.u64.wrap (z + IntKind.u64.wrap 79805003735262389395)))
    (h8 : s8 = rnd s7 (IntKind.u64.wrap (u + IntKind.u64.wrap 91205718554585587880))) : s8 = stir ⟨a, b, c, d⟩ ⟨x, y, z, u⟩ := by
  rw [h8, h7, h6, h5, h4, h3, h2, h1]
  have e1 : wr (1 * kk) = 11400714819323198485 := by unfold wr kk; rw [IntKind.wrap_u64]; rfl
  unfold stir
  rw [e1]
  rfl
set_option maxHeartbeats 4000000 in
theorem stir_any (a b c d x y z u : Int) (w : World) :
    Calls Tryz.prog 114 #[.agg #[.int .u64 a, .int .u64 b, .int .u64 c, .int .u64 d], .agg #[.int .u64 x, .int .u64 y, .int .u64 z, .int .u64 u]] w fun e w' => (∃ a' b' c' d', e = .returned (.agg #[.int .u64 a', .int .u64 b', .int .u64 c', .int .u64 d']) ∧ Hid (S4.mk a' b' c' d' = stir ⟨a, b, c, d⟩ ⟨x, y, z, u⟩)) ∧ Below w.heap.size w w' := by
  have i0 : ∀ (w : World) (x0 x1 x2 x3 : Value), (Instr.index 113 (.agg #[x0, x1, x2, x3]) (.int .i64 0)).run Tryz.prog w = .ok x0 w := fun _ _ _ _ _ => by kernel_rfl
  have i1 : ∀ (w : World) (x0 x1 x2 x3 : Value), (Instr.index 113 (.agg #[x0, x1, x2, x3]) (.int .i64 1)).run Tryz.prog w = .ok x1 w := fun _ _ _ _ _ => by kernel_rfl
  have i2 : ∀ (w : World) (x0 x1 x2 x3 : Value), (Instr.index 113 (.agg #[x0, x1, x2, x3]) (.int .i64 2)).run Tryz.prog w = .ok x2 w := fun _ _ _ _ _ => by kernel_rfl
  have i3 : ∀ (w : World) (x0 x1 x2 x3 : Value), (Instr.index 113 (.agg #[x0, x1, x2, x3]) (.int .i64 3)).run Tryz.prog w = .ok x3 w := fun _ _ _ _ _ => by kernel_rfl
  have R0 := rows3_new w #[.int .u64 a, .int .u64 b, .int .u64 c, .int .u64 d] #[.int .u64 x, .int .u64 y, .int .u64 z, .int .u64 u] #[.int .u64 0, .int .u64 0, .int .u64 0, .int .u64 0]
  go_enter Tryz.func114, Tryz.ntmps114
  go_wp2
  go_step3
  go_wp2
  go_step3
  go_wp2
  refine wp_loop_rounds 2 ?_
  rw [rounds_succ]
  go_wp2
  refine wp_loop_rounds 5 ?_
  rw [rounds_succ]
  go_wp2_with fail
  refine (round_any _ _ _ _ _ _).mono ?_
  rintro e w1 ⟨⟨a1, b1, c1, d1, rfl, H1⟩, hb1⟩
  have S1 := Rows3.call R0 hb1
  obtain ⟨p1, q1, r1, s1, f1⟩ := cells4 S1.h2
  clear hb1
  go_wp2_with fail
  have R1 := Rows3.put S1 (.int .u64 a1) (.int .u64 b1) (.int .u64 c1) (.int .u64 d1)
  rw [rounds_succ]
  go_wp2_with fail
  refine (round_any _ _ _ _ _ _).mono ?_
  rintro e w2 ⟨⟨a2, b2, c2, d2, rfl, H2⟩, hb2⟩
  clear p1 q1 r1 s1 f1
  have S2 := Rows3.call R1 hb2
  obtain ⟨p2, q2, r2, s2, f2⟩ := cells4 S2.h2
  clear hb2
  go_wp2_with fail
  have R2 := Rows3.put S2 (.int .u64 a2) (.int .u64 b2) (.int .u64 c2) (.int .u64 d2)
  rw [rounds_succ]
  go_wp2_with fail
  refine (round_any _ _ _ _ _ _).mono ?_
  rintro e w3 ⟨⟨a3, b3, c3, d3, rfl, H3⟩, hb3⟩
  clear p2 q2 r2 s2 f2
  have S3 := Rows3.call R2 hb3
  obtain ⟨p3, q3, r3, s3, f3⟩ := cells4 S3.h2
  clear hb3
  go_wp2_with fail
  have R3 := Rows3.put S3 (.int .u64 a3) (.int .u64 b3) (.int .u64 c3) (.int .u64 d3)
  rw [rounds_succ]
  go_wp2_with fail
  refine (round_any _ _ _ _ _ _).mono ?_
  rintro e w4 ⟨⟨a4, b4, c4, d4, rfl, H4⟩, hb4⟩
  clear p3 q3 r3 s3 f3
  have S4 := Rows3.call R3 hb4
  obtain ⟨p4, q4, r4, s4, f4⟩ := cells4 S4.h2
  clear hb4
  go_wp2_with fail
  have R4 := Rows3.put S4 (.int .u64 a4) (.int .u64 b4) (.int .u64 c4) (.int .u64 d4)
  rw [rounds_succ]
  go_wp2_with fail
  rw [rounds_succ]
  obtain ⟨p0, q0, r0, s0, _⟩ := cells4 R4.h3
  go_wp2_with fail
  refine wp_loop_rounds 5 ?_
  rw [rounds_succ]
  go_wp2_with fail
  refine (round_any _ _ _ _ _ _).mono ?_
  rintro e w5 ⟨⟨a5, b5, c5, d5, rfl, H5⟩, hb5⟩
  clear p4 q4 r4 s4 f4
  clear p0 q0 r0 s0
  have S5 := Rows3.call R4 hb5
  obtain ⟨p5, q5, r5, s5, f5⟩ := cells4 S5.h2
  clear hb5
  go_wp2_with fail
  have R5 := Rows3.put S5 (.int .u64 a5) (.int .u64 b5) (.int .u64 c5) (.int .u64 d5)
  rw [rounds_succ]
  go_wp2_with fail
  refine (round_any _ _ _ _ _ _).mono ?_
  rintro e w6 ⟨⟨a6, b6, c6, d6, rfl, H6⟩, hb6⟩
  clear p5 q5 r5 s5 f5
  have S6 := Rows3.call R5 hb6
  obtain ⟨p6, q6, r6, s6, f6⟩ := cells4 S6.h2
  clear hb6
  go_wp2_with fail
  have R6 := Rows3.put S6 (.int .u64 a6) (.int .u64 b6) (.int .u64 c6) (.int .u64 d6)
  rw [rounds_succ]
  go_wp2_with fail
  refine (round_any _ _ _ _ _ _).mono ?_
  rintro e w7 ⟨⟨a7, b7, c7, d7, rfl, H7⟩, hb7⟩
  clear p6 q6 r6 s6 f6
  have S7 := Rows3.call R6 hb7
  obtain ⟨p7, q7, r7, s7, f7⟩ := cells4 S7.h2
  clear hb7
  go_wp2_with fail
  have R7 := Rows3.put S7 (.int .u64 a7) (.int .u64 b7) (.int .u64 c7) (.int .u64 d7)
  rw [rounds_succ]
  go_wp2_with fail
  refine (round_any _ _ _ _ _ _).mono ?_
  rintro e w8 ⟨⟨a8, b8, c8, d8, rfl, H8⟩, hb8⟩
  clear p7 q7 r7 s7 f7
  have S8 := Rows3.call R7 hb8
  obtain ⟨p8, q8, r8, s8, f8⟩ := cells4 S8.h2
  clear hb8
  obtain ⟨p9, q9, r9, s9, f9⟩ := cells4 S8.h4
  go_wp2_with fail
  rw [Exit.noGoto_ret]
  have T8 := Rows3.put S8 (.int .u64 a8) (.int .u64 b8) (.int .u64 c8) (.int .u64 d8)
  have hrow := put4 T8.h4 (.int .u64 a8) (.int .u64 b8) (.int .u64 c8) (.int .u64 d8)
  refine bodyPost_ret (results_cell_row Tryz.results114 _ _ (w.heap.size + 1 + 1) 113 #[.int .u64 a8, .int .u64 b8, .int .u64 c8, .int .u64 d8] (0, 0) _ rfl hrow Tryz.underlying113 rfl (by kernel_rfl)) rfl ?_
  exact ⟨⟨_, _, _, _, rfl, stir_of H1.out H2.out H3.out H4.out H5.out H6.out H7.out H8.out⟩, below4 T8.bel (by omega) _ _ _ _⟩
end Go.Proofs.YtalhnnjpjaeakaaGreat.Di

/- Steps through regions, plain and drawn; digests whole: load, store, what is the same. -/
import Derived.Test.YtjpcfdhkgfaeeaaG00
import Derived.Test.YtjpcfdhkgfaeeaaG05
import Derived.Test.YtjpcfdhkgfaeeaaG03
import Derived.Deep.MidRow
import Derived.Lib.ConvBytes
import Derived.Maps.Keyed
namespace Go.Proofs.Ytjpcfdhkgfaeeaa
open Go.RowKit
set_option linter.unusedVariables false
set_option maxRecDepth 100000
theorem gen_w {W : World} {p q : World → Prop} (F : q W) (h : ∀ v, q v → p v) : p W := h W F
def z32 : List Int := List.replicate 32 0
theorem z32_len : z32.length = 32 := rfl
section
variable {P : Program} {md : Region.Mode} {ops : Array Oper} {Q : Exit → Act → World → Prop} {S : World → Prop} {fuel : Nat} {listed : Array Bool} {a : Act} {w : World}
theorem rd_take (i d : Nat) (v : Value) {o : Oper} (ho : ops[i]? = some o) (hd : o.dst = some d) (hs : Region.noSelect ops = true) (hf : Region.free md ops listed i = true) (hr : (Region.ready md ops listed).contains i = true)
    (hQ : ∀ c a w, Q (.panic c) (a.put o.dst v) w → Q (.panic c) a w) (hg : Region.wanted o (yielded ops a.tmps) = true) (hy : ∀ w, S w → (execOp a.eval o).run P w = .ok (.value v) w) (hS : S w)
    (h : wpAnyH P md ops Q S fuel (listed.setIfInBounds i true) (a.put (some d) v) w) : wpAnyH P md ops Q S (fuel + 1) listed a w :=
  wpAnyH_take ho hs hf hr hQ (Or.inl ⟨hg, hy⟩) hS (hd ▸ h)
theorem rd_skip (i d : Nat) {o : Oper} (ho : ops[i]? = some o) (hd : o.dst = some d) (hs : Region.noSelect ops = true) (hf : Region.free md ops listed i = true) (hr : (Region.ready md ops listed).contains i = true)
    (hQ : ∀ c a w, Q (.panic c) (a.put o.dst undef) w → Q (.panic c) a w) (hg : Region.wanted o (yielded ops a.tmps) = false) (hS : S w)
    (h : wpAnyH P md ops Q S fuel (listed.setIfInBounds i true) (a.put (some d) undef) w) : wpAnyH P md ops Q S (fuel + 1) listed a w :=
  wpAnyH_take ho hs hf hr hQ (Or.inr ⟨hg, rfl⟩) hS (hd ▸ h)
theorem rd_run (i d : Nat) (v : Value) {rs : List Nat} {w' : World} {o : Oper} (ho : ops[i]? = some o) (hd : o.dst = some d) (hg : Region.wanted o (yielded ops a.tmps) = true) (hrun : (execOp a.eval o).run P w = .ok (.value v) w') (hS : S w')
    (h : wpAnyH P md ops Q S fuel (listed.setIfInBounds i true) (a.put (some d) v) w') (hs : AllReadyH P md ops Q S fuel listed a w rs) : AllReadyH P md ops Q S fuel listed a w (i :: rs) :=
  AllReadyH.cons ho (fun K hK => by
    rw [if_pos hg]
    unfold Oper.wp
    rw [hrun, Oper.upon_value]
    exact hK _ _ hS (fun _ => hd ▸ h)) hs
theorem rd_call (i d : Nat) {rs : List Nat} {o : Oper} (ho : ops[i]? = some o) (hd : o.dst = some d) (hg : Region.wanted o (yielded ops a.tmps) = true) (f : FuncId) (args : Array Value) (hrun : (execOp a.eval o).run P w = .ok (.enter f args) w)
    {R : Value → World → Prop} (hc : Calls P f args w fun e w' => ∃ v, e = .returned v ∧ R v w') (hSS : ∀ v w', R v w' → S w') (h : ∀ v w', R v w' → wpAnyH P md ops Q S fuel (listed.setIfInBounds i true) (a.put (some d) v) w')
    (hs : AllReadyH P md ops Q S fuel listed a w rs) : AllReadyH P md ops Q S fuel listed a w (i :: rs) :=
  AllReadyH.cons ho (fun K hK => by
    rw [if_pos hg]
    unfold Oper.wp
    rw [hrun, Oper.upon_enter]
    refine hc.mono ?_
    rintro e w' ⟨v, rfl, hR⟩
    exact hK _ _ (hSS v w' hR) (fun _ => hd ▸ h v w' hR)) hs
theorem rd_conv {s : ByteArray} {t u : TypeId} {x : Operand} {v : Value} {o : Oper} (ho : o.op = .convert t u x) (hx : a.eval x = v) (hc : (convert t u v).run P w = .ok (.string s) w) : (execOp a.eval o).run P w = .ok (.value (.string s)) w := by
  simp [execOp, ho, hx, hc]
end
section
variable {a : Act} {w : World}
theorem rd_eqE {p q : Int} {r : TypeId} {x y : Operand} {b : Bool} {o : Oper} (ho : o.op = .binOp .eql 45 x y r) (hx : a.eval x = .int .i64 p) (hy : a.eval y = .int .i64 q) (hb : (p == q) = b) : (execOp a.eval o).run Try.prog w = .ok (.value (.bool b)) w := by
  subst hb
  unfold execOp
  rw [ho]
  simp only [hx, hy]
  go_simp
theorem rd_eqi {p q : Int} {r : TypeId} {x y : Operand} {b : Bool} {o : Oper} (ho : o.op = .binOp .eql 3 x y r) (hx : a.eval x = .int .i64 p) (hy : a.eval y = .int .i64 q) (hb : (p == q) = b) : (execOp a.eval o).run Try.prog w = .ok (.value (.bool b)) w := by
  subst hb
  unfold execOp
  rw [ho]
  simp only [hx, hy]
  go_simp
theorem rd_eqb {p q : Bool} {r : TypeId} {x y : Operand} {b : Bool} {o : Oper} (ho : o.op = .binOp .eql 4 x y r) (hx : a.eval x = .bool p) (hy : a.eval y = .bool q) (hb : (p == q) = b) : (execOp a.eval o).run Try.prog w = .ok (.value (.bool b)) w := by
  subst hb
  unfold execOp
  rw [ho]
  simp only [hx, hy]
  go_simp
end
theorem below_go {w0 w w' : World} (h : Below w0.heap.size w0 w) (hb : Below w.heap.size w w') : Below w0.heap.size w0 w' := h.trans (hb.mono h.size)
theorem below_cell {w w' : World} (hb : Below w.heap.size w w') {g o : Nat} {v : Value} (h : w.cell? ⟨g, o, none⟩ = some v) : w'.cell? ⟨g, o, none⟩ = some v := (hb.cell (p := ⟨g, o, none⟩) (block_lt_of_cell h)).trans h
theorem end_ret {N : Nat} {w0 : World} {a : Act} {w' : World} {fn : Func} (t : Tmp) (hr : fn.results = #[.tmp t]) (h1 : a.defers = []) (h2 : a.tmps.getD t undef = .bool true) (hb : Below N w0 w') :
    Code.wp Try.prog .ret (bodyPost Try.prog fn fun e w' => e = .returned (.bool true) ∧ Below N w0 w') a w' :=
  wp_ret (bodyPost_ret ((results_tmp (t := t) hr _ _ _).trans (by rw [h2])) h1 ⟨rfl, hb⟩)
theorem cut_at {K : Act → World → Prop} {Q : Exit → Act → World → Prop} {a F : Act} {w : World} (h : a = F) (hk : K F w) : Exit.then K Q .normal a w := by
  subst h
  exact hk
def B8 (bs : List Int) : Array Value := (bs.map (Value.int .u8)).toArray
theorem B8_size (bs : List Int) : (B8 bs).size = bs.length := by simp [B8]
theorem B8_get (bs : List Int) (k : Nat) (h : k < bs.length) : (B8 bs)[k]? = some (.int .u8 (bs.getD k 0)) := by simp [B8, h]
theorem eq_loop (xs ys : List Int) (hx : xs.length = 32) (hy : ys.length = 32) (d : Nat) : ∀ (n k : Nat) (w : World), k + n = 32 →
    (forIn (m := Sem) (List.range' k n) ((none : Option Bool), ()) fun i _ => do
            let a ← part 5 (B8 xs) (i * 1)
            let b ← part 5 (B8 ys) (i * 1)
            let r ← Op.equalIn (d + 1) 5 a b
            if (!r) = true then pure (ForInStep.done (some false, ())) else pure (ForInStep.yield (none, ()))).run Try.prog w =
      .ok (if xs.drop k == ys.drop k then (none, ()) else (some false, ())) w
  | 0, k, w, hk => by
    have e1 : xs.drop k = [] := List.drop_eq_nil_of_le (by omega)
    have e2 : ys.drop k = [] := List.drop_eq_nil_of_le (by omega)
    rw [e1, e2]
    simp
  | n + 1, k, w, hk => by
    have ih := eq_loop xs ys hx hy d n (k + 1) w (by omega)
    have hlx : k < xs.length := by omega
    have hly : k < ys.length := by omega
    have px : (part 5 (B8 xs) (k * 1)).run Try.prog w = .ok (.int .u8 (xs.getD k 0)) w := by
      simp only [part, Sem.run_bind, isAgg, run_underlying Try.underlying5, Result.andThen_ok, Sem.run_pure, Bool.false_eq_true, if_false, Nat.mul_one, B8_get xs k hlx]
    have py : (part 5 (B8 ys) (k * 1)).run Try.prog w = .ok (.int .u8 (ys.getD k 0)) w := by
      simp only [part, Sem.run_bind, isAgg, run_underlying Try.underlying5, Result.andThen_ok, Sem.run_pure, Bool.false_eq_true, if_false, Nat.mul_one, B8_get ys k hly]
    have pe := run_equalIn_int w d 5 .u8 .u8 (xs.getD k 0) (ys.getD k 0) (P := Try.prog) Try.underlying5
    have dx : xs.drop k = xs.getD k 0 :: xs.drop (k + 1) := by rw [List.drop_eq_getElem_cons hlx]; simp [List.getD, List.getElem?_eq_getElem hlx]
    have dy : ys.drop k = ys.getD k 0 :: ys.drop (k + 1) := by rw [List.drop_eq_getElem_cons hly]; simp [List.getD, List.getElem?_eq_getElem hly]
    rw [List.range'_succ, List.forIn_cons]
    simp only [Sem.run_bind, px, py, pe, Result.andThen_ok]
    rw [dx, dy, List.cons_beq_cons]
    cases hc : (xs.getD k 0 == ys.getD k 0) with
    | false => simp
    | true =>
      simp only [Bool.not_true, Bool.false_eq_true, if_false, Sem.run_pure, Result.andThen_ok, Bool.true_and]
      exact ih
theorem eq_arr (xs ys : List Int) (hx : xs.length = 32) (hy : ys.length = 32) (d : Nat) (w : World) :
    (Op.equalIn (d + 1 + 1) 30 (.agg (B8 xs)) (.agg (B8 ys))).run Try.prog w = .ok (xs == ys) w := by
  have hs : (Try.prog.info? 5).map (·.size) = some 1 := by kernel_rfl
  cases hq : Try.prog.info? 5 with
  | none => simp [hq] at hs
  | some y =>
    have hy1 : y.size = 1 := by simpa [hq] using hs
    rw [Op.equalIn]
    simp only [Sem.run_bind, run_underlying Try.underlying30, Result.andThen_ok, sizeOf, typeInfo, run_program, hq, hy1, Sem.run_pure]
    have e := eq_loop xs ys hx hy d 32 0 w (by omega)
    rw [Std.Legacy.Range.forIn_eq_forIn_range']
    simp only [Std.Legacy.Range.size, List.drop_zero] at e ⊢
    rw [show (32 - 0 + 1 - 1) / 1 = 32 from rfl]
    rw [e]
    cases xs == ys <;> simp
theorem eqD (xs ys : List Int) (hx : xs.length = 32) (hy : ys.length = 32) (w : World) : (Op.equalIn 10000 30 (.agg (B8 xs)) (.agg (B8 ys))).run Try.prog w = .ok (xs == ys) w := eq_arr xs ys hx hy 9998 w
section
variable {w : World} {ops : Array Oper} {rest : List Oper} {o : Oper} {a : Act} {Q : Exit → Act → World → Prop}
theorem wants (hw : Region.wanted o (yielded ops a.tmps) = true) (h : ∀ K : Act → World → Prop, (∀ a w, wpList Try.prog ops Q rest a w → K a w) → o.wp Try.prog a w K Q) : wpList Try.prog ops Q (o :: rest) a w :=
  wpList_step fun K hK => by rw [if_pos hw]; exact h K hK
theorem wpl_eqD (hw : Region.wanted o (yielded ops a.tmps) = true) (x y : Operand) (ho : o.op = .binOp .eql 30 x y 30) (xs ys : List Int) (hx : a.eval x = .agg (B8 xs)) (hy : a.eval y = .agg (B8 ys)) (lx : xs.length = 32) (ly : ys.length = 32) (q : Bool) (hq : (xs == ys) = q)
    (h : wpList Try.prog ops Q rest (a.put o.dst (.bool q)) w) : wpList Try.prog ops Q (o :: rest) a w := by
  subst hq
  refine wants hw fun K hK => ?_
  have e := eqD xs ys lx ly
  unfold Oper.wp execOp
  simp only [ho, hx, hy]
  go_simp
  exact hK _ _ h
theorem wpl_neD (hw : Region.wanted o (yielded ops a.tmps) = true) (x y : Operand) (ho : o.op = .binOp .neq 30 x y 30) (xs ys : List Int) (hx : a.eval x = .agg (B8 xs)) (hy : a.eval y = .agg (B8 ys)) (lx : xs.length = 32) (ly : ys.length = 32) (q : Bool) (hq : (!(xs == ys)) = q)
    (h : wpList Try.prog ops Q rest (a.put o.dst (.bool q)) w) : wpList Try.prog ops Q (o :: rest) a w := by
  subst hq
  refine wants hw fun K hK => ?_
  have e := eqD xs ys lx ly
  unfold Oper.wp execOp
  simp only [ho, hx, hy]
  go_simp
  exact hK _ _ h
theorem wpl_load (hw : Region.wanted o (yielded ops a.tmps) = true) (ty : TypeId) (x : Operand) (ho : o.op = .load ty x) (b off : Nat) (hx : a.eval x = .pointer (some ⟨b, off, none⟩)) (cs : List Value) (d : TypeDesc) (hc : w.rangeAt b off cs)
    (hu : Try.prog.underlying ty = some d) (hd : d.isRow = true) (hi : (Try.prog.info? ty).map (·.size) = some cs.length) (h : wpList Try.prog ops Q rest (a.put o.dst (.agg cs.toArray)) w) : wpList Try.prog ops Q (o :: rest) a w :=
  wants hw fun _ hK => wp_load_mid ty x ho b off hx cs d hc hu hd hi (hK _ _ h)
theorem wpl_loadD (hw : Region.wanted o (yielded ops a.tmps) = true) (x : Operand) (ho : o.op = .load 30 x) (b off : Nat) (hx : a.eval x = .pointer (some ⟨b, off, none⟩)) (ds : List Int) (hl : ds.length = 32) (hc : w.rangeAt b off (ds.map (Value.int .u8)))
    (h : wpList Try.prog ops Q rest (a.put o.dst (.agg (B8 ds))) w) : wpList Try.prog ops Q (o :: rest) a w :=
  wpl_load hw 30 x ho b off hx (ds.map (Value.int .u8)) _ hc Try.underlying30 rfl (by rw [List.length_map, hl]; kernel_rfl) h
theorem wpl_build (hw : Region.wanted o (yielded ops a.tmps) = true) (t : TypeId) (parts : Array (Nat × Operand)) (ho : o.op = .build t parts) (cells : Array Value) (hf : Try.prog.built t (parts.map fun (i, x) => (i, a.eval x)).toList = some cells)
    (h : wpList Try.prog ops Q rest (a.put o.dst (.agg cells)) w) : wpList Try.prog ops Q (o :: rest) a w := by
  exact wants hw fun _ hK => wp_build t parts ho (by rw [hf]; rfl) (by rw [hf]; exact hK _ _ h)
end
section
variable {md : Region.Mode} {ops : Array Oper} {Q : Exit → Act → World → Prop} {S : World → Prop} {fuel : Nat} {listed : Array Bool} {a : Act} {w : World}
/-- An operation that hands nothing on (a store). -/
theorem rd_run0 (i : Nat) {rs : List Nat} {w' : World} {o : Oper} (ho : ops[i]? = some o) (hd : o.dst = none) (hg : Region.wanted o (yielded ops a.tmps) = true) (hrun : (execOp a.eval o).run Try.prog w = .ok .skip w') (hS : S w')
    (h : wpAnyH Try.prog md ops Q S fuel (listed.setIfInBounds i true) a w') (hs : AllReadyH Try.prog md ops Q S fuel listed a w rs) : AllReadyH Try.prog md ops Q S fuel listed a w (i :: rs) :=
  AllReadyH.cons ho (fun K hK => by
    rw [if_pos hg]
    unfold Oper.wp
    rw [hrun, Oper.upon_skip]
    exact hK _ _ hS (fun _ => by rw [hd]; exact h)) hs
end
section
variable {ops : Array Oper} {Q : Exit → Act → World → Prop} {a : Act} {w w' : World} {rest : List Oper} {o : Oper}
theorem wl_region {id : Nat} (l : List Oper) (hl : ∀ j, l[j]? = ops[0 + j]?) (hn : ops.size = l.length) (h : wpList Try.prog ops Q l a w) : (Code.region id ops false).wp Try.prog Q a w := by
  refine wp_region ?_
  rw [hn, List.range_eq_range', wpOps_eq_wpList l 0 hl]
  exact h
theorem wl_run (d : Nat) (v : Value) (hd : o.dst = some d) (hw : Region.wanted o (yielded ops a.tmps) = true) (hrun : (execOp a.eval o).run Try.prog w = .ok (.value v) w') (h : wpList Try.prog ops Q rest (a.put (some d) v) w') : wpList Try.prog ops Q (o :: rest) a w :=
  wants hw fun K hK => by
    unfold Oper.wp
    rw [hrun, Oper.upon_value, hd]
    exact hK _ _ h
theorem wl_pure (d : Nat) (v : Value) (hd : o.dst = some d) (hw : Region.wanted o (yielded ops a.tmps) = true) (hrun : (execOp a.eval o).run Try.prog w = .ok (.value v) w) (h : wpList Try.prog ops Q rest (a.put (some d) v) w) : wpList Try.prog ops Q (o :: rest) a w := wl_run d v hd hw hrun h
theorem wl_skip (hd : o.dst = none) (hw : Region.wanted o (yielded ops a.tmps) = true) (hrun : (execOp a.eval o).run Try.prog w = .ok .skip w') (h : wpList Try.prog ops Q rest a w') : wpList Try.prog ops Q (o :: rest) a w :=
  wants hw fun K hK => by
    unfold Oper.wp
    rw [hrun, Oper.upon_skip, hd]
    exact hK _ _ h
theorem wl_call (d : Nat) (hd : o.dst = some d) (hw : Region.wanted o (yielded ops a.tmps) = true) (f : FuncId) (args : Array Value) (hrun : (execOp a.eval o).run Try.prog w = .ok (.enter f args) w)
    {R : Value → World → Prop} (hc : Calls Try.prog f args w fun e w' => ∃ v, e = .returned v ∧ R v w') (h : ∀ v w', R v w' → wpList Try.prog ops Q rest (a.put (some d) v) w') : wpList Try.prog ops Q (o :: rest) a w :=
  wants hw fun K hK => by
    unfold Oper.wp
    rw [hrun, Oper.upon_enter]
    refine hc.mono ?_
    rintro e w' ⟨v, rfl, hR⟩
    rw [hd]
    exact hK _ _ (h v w' hR)
end
section
variable {a : Act} {w : World}
theorem rd_build (t : TypeId) (parts : Array (Nat × Operand)) {o : Oper} (ho : o.op = .build t parts) (vals : List (Nat × Value)) (hv : (parts.map fun (i, x) => (i, a.eval x)).toList = vals) (cells : Array Value) (hf : Try.prog.built t vals = some cells) :
    (execOp a.eval o).run Try.prog w = .ok (.value (.agg cells)) w := by
  subst hv
  have hr := run_build w t (parts.map fun (i, x) => (i, a.eval x)) cells (P := Try.prog) hf
  unfold execOp
  rw [ho]
  simp only [Sem.run_bind, hr, Result.andThen_ok, Sem.run_pure]
theorem rd_store (ty : TypeId) (x y : Operand) {o : Oper} (ho : o.op = .store ty x y) (g : Nat) (cells : Array Value) (hx : a.eval x = .pointer (some ⟨g, 0, none⟩)) (hy : a.eval y = .agg cells) (t : TypeId) (old : Array Value)
    (hg : w.heap[g]? = some (.cells old t (0, 0))) (hi : (Try.prog.info? ty).map (·.size) = some cells.size) (hold : old.size = cells.size) (h1 : cells.all (·.oneCell') = true) :
    (execOp a.eval o).run Try.prog w = .ok .skip (w.setRow g cells) := by
  unfold execOp
  rw [ho]
  simp only [hx, hy, Instr.storeAt, Instr.sureAddr, Sem.run_bind, Sem.run_pure, Result.andThen_ok, run_storeVar_row w g t ty old cells hg hi hold h1]
theorem rd_loadRow (ty : TypeId) (x : Operand) {o : Oper} (ho : o.op = .load ty x) (b off : Nat) (hx : a.eval x = .pointer (some ⟨b, off, none⟩)) (cs : List Value) (d : TypeDesc) (hc : w.rangeAt b off cs) (hu : Try.prog.underlying ty = some d) (hd : d.isRow = true) (hi : (Try.prog.info? ty).map (·.size) = some cs.length) :
    (execOp a.eval o).run Try.prog w = .ok (.value (.agg cs.toArray)) w := by
  unfold execOp
  simp only [ho, hx, Instr.loadAt, Instr.sureAddr, Sem.run_bind, Sem.run_pure, Result.andThen_ok, run_loadVar_mid w b off ty cs d hc hu hd hi]
end
theorem built_D : Try.prog.built 30 [] = some (B8 z32) := by kernel_rfl
theorem B8_ones (bs : List Int) : (B8 bs).all (·.oneCell') = true := all_oneCell_toArray (B8_one2 bs)
theorem infoD (ds : List Int) (h : ds.length = 32) : (Try.prog.info? 30).map (·.size) = some (B8 ds).size := by rw [B8_size, h]; kernel_rfl
theorem z8_size {ds : List Int} (h : ds.length = 32) : (B8 z32).size = (B8 ds).size := by rw [B8_size, B8_size, h]; rfl
/-- A box that holds a digest. -/
structure DBx (g : Nat) (v : World) (d : List Int) : Prop where
  row : v.heap[g]? = some (.cells (B8 d) 30)
  l : d.length = 32
theorem DBx.go {g : Nat} {v v' : World} {d : List Int} (h : DBx g v d) (hb : Below v.heap.size v v') : DBx g v' d := ⟨Below.row hb h.row, h.l⟩
theorem DBx.all {g : Nat} {v : World} {d : List Int} (h : DBx g v d) : v.rangeAt g 0 (d.map (Value.int .u8)) := fun j u hu => by
  rw [cell_of_row _ _ _ _ _ _ h.row, Nat.zero_add, B8, List.getElem?_toArray]; exact hu
theorem Below.setRow {B : Nat} {w0 w : World} {g : Nat} (h : Below B w0 w) (hg : B ≤ g) (cs : Array Value) : Below B w0 (w.setRow g cs) :=
  h.trans ⟨rfl, rfl, rfl, by simp, fun k hk => setRow_other w g k cs (by omega)⟩
theorem below_new (w : World) (o : Obj) : Below w.heap.size w (w.alloc o) := (Below.refl _ _).alloc (Nat.le_refl _) _
theorem dbx_new (w : World) (d : List Int) (h : d.length = 32) : DBx w.heap.size (w.alloc (.cells (B8 d) 30)) d := ⟨heap_alloc_new _ _, h⟩
section
variable {a : Act} {w : World}
theorem rd_loadDd {x : Operand} {o : Oper} (ho : o.op = .load 30 x) {b : Nat} (hx : a.eval x = .pointer (some ⟨b, 0, none⟩)) {d : List Int} (hc : DBx b w d) : (execOp a.eval o).run Try.prog w = .ok (.value (.agg (B8 d))) w :=
  rd_loadRow 30 x ho b 0 hx (d.map (Value.int .u8)) _ hc.all Try.underlying30 rfl (by rw [List.length_map, hc.l]; kernel_rfl)
theorem rd_allocD {o : Oper} (ho : o.op = .alloc 30) : (execOp a.eval o).run Try.prog w = .ok (.value (.pointer (some ⟨w.heap.size, 0, none⟩))) (w.alloc (.cells (B8 z32) 30)) := by
  unfold execOp
  rw [ho]
  go_simp
  rfl
theorem rd_eqDig {x y : Operand} {o : Oper} {ds es : List Int} (ho : o.op = .binOp .eql 30 x y 30) (hx : a.eval x = .agg (B8 ds)) (hy : a.eval y = .agg (B8 es)) (hl : ds.length = 32) (hl2 : es.length = 32) {q : Bool} (hq : (ds == es) = q) : (execOp a.eval o).run Try.prog w = .ok (.value (.bool q)) w := by
  have e := eqD ds es hl hl2
  rw [hq] at e
  unfold execOp
  rw [ho]
  simp only [hx, hy]
  go_simp
end
end Go.Proofs.Ytjpcfdhkgfaeeaa
/- A store's map: look up, store, delete. -/
namespace Go.Proofs.Ytjpcfdhkgfaeeaa
open Go.RowKit
open Go.ChangeMaps (setBlock)
set_option linter.unusedVariables false
set_option maxRecDepth 100000
/-- One thing of a store: its digest, its text, how many references there are. -/
structure Th where
  d : List Int
  s : ByteArray
  r : Int
def Th.key (x : Th) : Value := .agg (B8 x.d)
def Th.val (x : Th) : Value := .agg #[.string x.s, .int .i64 x.r]
def thz : Value := .agg #[.string ByteArray.empty, .int .i64 0]
/-- The entries of a map are these things, in this order. -/
def Ents (es : List MapEntry) (L : List Th) : Prop := es.map (fun e => (e.key, e.val)) = L.map fun x => (x.key, x.val)
def Lens (L : List Th) : Prop := ∀ x ∈ L, x.d.length = 32
def findT (d : List Int) : List Th → Option (Nat × Th)
  | [] => none
  | x :: r => if x.d = d then some (0, x) else match findT d r with
    | none => none
    | some (j, y) => some (j + 1, y)
theorem check_loop (xs : List Int) (hx : xs.length = 32) (em : Bool) (m : Nat) (w : World) : ∀ (n k : Nat), k + n = 32 →
    (forIn (m := Sem) (List.range' k n) PUnit.unit fun i __s => do
            let __do_lift ← sizeOf 5
            let __do_lift ← part 5 (B8 xs) (i * __do_lift)
            Instr.checkKey em (m + 1) 5 __do_lift
            pure (ForInStep.yield PUnit.unit)).run Try.prog w = .ok PUnit.unit w
  | 0, k, hk => by simp
  | n + 1, k, hk => by
    have ih := check_loop xs hx em m w n (k + 1) (by omega)
    have hs : (Try.prog.info? 5).map (·.size) = some 1 := by kernel_rfl
    cases hq : Try.prog.info? 5 with
    | none => simp [hq] at hs
    | some y =>
      have hy1 : y.size = 1 := by simpa [hq] using hs
      have hlx : k < xs.length := by omega
      have px : (part 5 (B8 xs) (k * 1)).run Try.prog w = .ok (.int .u8 (xs.getD k 0)) w := by
        simp only [part, Sem.run_bind, isAgg, run_underlying Try.underlying5, Result.andThen_ok, Sem.run_pure, Bool.false_eq_true, if_false, Nat.mul_one, B8_get xs k hlx]
      have pc : (Instr.checkKey em (m + 1) 5 (.int .u8 (xs.getD k 0))).run Try.prog w = .ok () w := by
        rw [Instr.checkKey]
        simp only [Sem.run_bind, run_underlying Try.underlying5, Result.andThen_ok, Sem.run_pure]
      rw [List.range'_succ, List.forIn_cons]
      simp only [Sem.run_bind, sizeOf, typeInfo, run_program, hq, hy1, Sem.run_pure, Result.andThen_ok, px, pc]
      simp only [sizeOf, typeInfo] at ih
      exact ih
theorem check_digest (xs : List Int) (hx : xs.length = 32) (em : Bool) (w : World) : (Instr.checkKey em 10000 30 (.agg (B8 xs))).run Try.prog w = .ok () w := by
  rw [show (10000 : Nat) = 9998 + 1 + 1 from rfl, Instr.checkKey]
  simp only [Sem.run_bind, run_underlying Try.underlying30, Result.andThen_ok]
  rw [Std.Legacy.Range.forIn_eq_forIn_range']
  simp only [Std.Legacy.Range.size]
  rw [show (32 - 0 + 1 - 1) / 1 = 32 from rfl, check_loop xs hx em 9998 w 32 0 (by omega)]
  simp
theorem bits_all : ∀ (l : List Int) (n : Nat), ((l.map (Value.int .u8)).zip (l.map (Value.int .u8))).all (fun x => match x with | (x, y) => Instr.sameBits n x y) = true
  | [], n => rfl
  | x :: r, n => by
    have ih := bits_all r n
    simp only [List.map_cons, List.zip_cons_cons, List.all_cons, ih, Bool.and_true]
    cases n <;> simp [Instr.sameBits]
theorem same_bits (xs : List Int) : Instr.sameBits 10000 (.agg (B8 xs)) (.agg (B8 xs)) = true := by
  rw [show (10000 : Nat) = 9999 + 1 from rfl, Instr.sameBits]
  simp only [B8, beq_self_eq_true, Bool.true_and]
  exact bits_all xs 9999
theorem stays (xs : List Int) (w : World) : (Instr.keyThatStays (.agg (B8 xs)) (.agg (B8 xs))).run Try.prog w = .ok (.agg (B8 xs)) w := by
  unfold Instr.keyThatStays
  rw [if_pos (same_bits xs), Sem.run_pure]
theorem ask_run (d : List Int) (hd : d.length = 32) (w : World) : ∀ (L : List Th) (es : List MapEntry) (i : Nat), Lens L → Ents es L →
    (Instr.findAsking 30 (.agg (B8 d)) es i).run Try.prog w = .ok (match findT d L with | none => none | some (j, y) => some (i + j, y.val)) w
  | [], [], i, _, _ => by simp [Instr.findAsking, findT]
  | [], e :: es, i, _, h => by simp [Ents] at h
  | x :: L, [], i, _, h => by simp [Ents] at h
  | x :: L, e :: es, i, hl, h => by
    obtain ⟨⟨hk, hv⟩, hr⟩ : (e.key = x.key ∧ e.val = x.val) ∧ Ents es L := by
      unfold Ents at h
      simp only [List.map_cons, List.cons.injEq, Prod.mk.injEq] at h
      exact h
    have ih := ask_run d hd w L es (i + 1) (fun y hy => hl y (List.mem_cons_of_mem _ hy)) hr
    have hq : (Op.equalIn Op.maxDepth 30 (.agg (B8 d)) (.agg (B8 x.d))).run Try.prog w = .ok (d == x.d) w := eqD d x.d hd (hl x (by simp)) w
    rw [Instr.findAsking]
    simp only [Sem.run_bind, hk, Th.key, Op.equal, hq, Result.andThen_ok]
    unfold findT
    by_cases hx : x.d = d
    · rw [if_pos hx, show (d == x.d) = true from by rw [hx]; simp]
      simp [hv]
    · rw [if_neg hx, show (d == x.d) = false from by rw [beq_eq_false_iff_ne]; exact fun e => hx e.symm]
      simp only [Bool.false_eq_true, if_false]
      rw [ih]
      cases findT d L with
      | none => rfl
      | some p => simp only; rw [show i + 1 + p.1 = i + (p.1 + 1) from by omega]
theorem find_run (d : List Int) (hd : d.length = 32) (w : World) (L : List Th) (es : List MapEntry) (hl : Lens L) (h : Ents es L) :
    (Instr.findKey 30 (.agg (B8 d)) es).run Try.prog w = .ok (match findT d L with | none => none | some (j, y) => some (j, y.val)) w := by
  have hn : Instr.findNow (.array 32 5) (.agg (B8 d)) es 0 = none ∨ es = [] := by
    cases es with
    | nil => exact .inr rfl
    | cons e r => left; rw [Instr.findNow]; rfl
  unfold Instr.findKey
  simp only [Sem.run_bind, run_underlying Try.underlying30, Result.andThen_ok]
  have ha := ask_run d hd w L es 0 hl h
  rcases hn with hn | rfl
  · rw [hn]
    simp only
    rw [ha]
    cases findT d L with
    | none => rfl
    | some p => simp
  · have : L = [] := by
      cases L with
      | nil => rfl
      | cons x r => simp [Ents] at h
    subst this
    rw [Instr.findNow]
    simp [findT]
theorem zero_entry (w : World) : (zeroValue 72).run Try.prog w = .ok thz w := by
  have hs : (Try.prog.info? 72).map (·.zero) = some (some thz) := by kernel_rfl
  cases hq : Try.prog.info? 72 with
  | none => simp [hq] at hs
  | some y =>
    have hy1 : y.zero = some thz := by simpa [hq] using hs
    simp [zeroValue, typeInfo, hq, hy1, Result.andThen]
/-- The store's map, in its block. -/
def Bn (es : List MapEntry) (clock : Nat) : Prop := (es.map (·.born)).Nodup ∧ ∀ e ∈ es, e.born < clock
def MapAt (w : World) (m : Nat) (L : List Th) : Prop := Lens L ∧ ∃ es clock, w.heap[m]? = some (.map es clock) ∧ Ents es.toList L ∧ Bn es.toList clock
theorem look_run {w : World} {m : Nat} {L : List Th} (h : MapAt w m L) (d : List Int) (hd : d.length = 32) :
    (Instr.lookup 67 (.map (some m)) (.agg (B8 d)) true).run Try.prog w = .ok (match findT d L with | none => .tuple #[thz, .bool false] | some (_, y) => .tuple #[y.val, .bool true]) w := by
  obtain ⟨hl, es, clock, hm, he, _⟩ := h
  have hf := find_run d hd w L es.toList hl he
  cases hq : findT d L with
  | none =>
    rw [hq] at hf
    simp [Instr.lookup, run_underlying Try.underlying67, MapKept.run_getObj_map hm, check_digest d hd, hf, Result.andThen]
    rfl
  | some p =>
    rw [hq] at hf
    simp [Instr.lookup, run_underlying Try.underlying67, MapKept.run_getObj_map hm, check_digest d hd, hf, Result.andThen]
end Go.Proofs.Ytjpcfdhkgfaeeaa

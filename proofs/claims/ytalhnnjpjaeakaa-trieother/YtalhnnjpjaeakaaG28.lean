/- What inlineKind and rightRef answer, where Decode of what is inline answers as it should. -/
import Derived.Test.YtalhnnjpjaeakaaG27
namespace Go.Proofs.Ytalhnnjpjaeakaa
open Go.RowKit
set_option linter.unusedVariables false
set_option maxRecDepth 100000
/-- The value of a reference, of a node, that is zero. -/
def rz : RV := ⟨0, z32, none, 0, 0⟩
def nz : NV := ⟨0, none, 0, 0, none, 0, 0, rz, none, 0, 0⟩
def DPost (w : World) (o : Option PN) : Ending → World → Prop := fun e w' => Below w.heap.size w w' ∧
  match o with
  | none => e = .returned (.tuple #[.agg nz.cells.toArray, .int .i64 50])
  | some n => ∃ y : NV, e = .returned (.tuple #[.agg y.cells.toArray, .int .i64 0]) ∧ NodeAt (Own w.heap.size w') w' y n
/-- Decode of these bytes answers as it should. -/
def DecSaid (b : List Int) : Prop := ∀ (a : Option Addr) (n c : Nat) (w : World), Ag w a n c b → n ≤ 140737488351232 → Calls Try.prog 61 #[.slice a n c] w (DPost w (ND b))
theorem kd_post {w : World} {o : Option PN} {e : Ending} {w' : World} (h : DPost w o e w') : Below w.heap.size w w' ∧ ∃ y : NV, ∃ er : Int, e = .returned (.tuple #[.agg y.cells.toArray, .int .i64 er]) ∧ y.k = kd o ∧ y.c.d.length = 32 := by
  obtain ⟨hb, hm⟩ := h
  refine ⟨hb, ?_⟩
  cases o with
  | none => exact ⟨nz, 50, hm, rfl, rfl⟩
  | some n =>
    obtain ⟨y, e1, hy⟩ := hm
    exact ⟨y, 0, e1, hy.k, hy.c.len⟩
theorem Below.setRow {B : Nat} {w0 w : World} {g : Nat} (h : Below B w0 w) (hg : B ≤ g) (cs : Array Value) : Below B w0 (w.setRow g cs) :=
  h.trans ⟨rfl, rfl, rfl, by simp, fun k hk => setRow_other w g k cs (by omega)⟩
theorem nz_row : (nz.cells.toArray : Array Value).size = 38 := rfl
set_option maxHeartbeats 1000000 in
theorem inlineKind_any (K : Nat → Prop) (x : RV) (r : PR) (w : World) (h : RefAt K w x r) (hd : DecSaid r.i) :
    Calls Try.prog 56 #[.agg x.cells.toArray] w fun e w' => e = .returned (.int .i64 (KD r.i)) ∧ Below w.heap.size w w' := by
  have B := rbx_new w x h.len
  have HB := Hid.mk (below_new w (.cells x.cells.toArray 74))
  have HD := Hid.mk (show ∀ v, Below w.heap.size w v → Calls Try.prog 61 #[.slice x.a x.n x.c] v (DPost v (ND r.i)) from fun v hv => hd _ _ _ v (h.2.2.2.2.1.at hv) h.2.2.2.2.2.1)
  obtain ⟨kr, hkr⟩ : ∃ kr, KD r.i = kr := ⟨_, rfl⟩
  have HK := Hid.mk (show kd (ND r.i) = kr from hkr)
  rw [hkr]
  clear h hd hkr
  go_enter Try.func56, Try.ntmps56
  go_upto_region 1 with fail
  refine gen_w (p := fun v => Code.wp _ _ _ _ v) (q := fun v => RBx w.heap.size v x ∧ Below w.heap.size w v) ⟨B, HB.out⟩ ?_
  clear B HB
  rintro v ⟨B, hb⟩
  have HB := Hid.mk hb
  have c0 := B.c33
  clear hb B
  go_wp2_with fail
  refine (HD.out v HB.out).mono ?_
  intro e w1 hp
  obtain ⟨hb1, y, er, rfl, hyk, hyl⟩ := kd_post hp
  rw [HK.out] at hyk
  have HB1 := Hid.mk (below_go HB.out hb1)
  have HS := Hid.mk (show (nz.cells.toArray : Array Value).size = y.cells.toArray.size from by rw [nz_row, List.size_toArray, NV.len hyl])
  have HI := Hid.mk (show (Try.prog.info? 77).map (·.size) = some y.cells.toArray.size from by rw [infoN, List.size_toArray, NV.len hyl])
  have HO := Hid.mk (all_oneCell_toArray y.one)
  have HYK := Hid.mk hyk
  have HYL := Hid.mk hyl
  clear hp hb1 hyk hyl HD HK HB c0
  go_upto_region 2 with (first | refine wpList_store_row rfl 77 _ _ rfl _ y.cells.toArray rfl rfl 77 _ (heap_alloc_new w1 _) HI.out HS.out HO.out ?_)
  refine gen_w (p := fun v => Code.wp _ _ _ _ v) (q := fun v => NBx w1.heap.size v y ∧ Below w.heap.size w v) ⟨⟨setRow_heap _ _ _ _ _ _ (heap_alloc_new w1 _), HYL.out⟩, Below.setRow (HB1.out.alloc HB1.out.size _) HB1.out.size _⟩ ?_
  rintro v2 ⟨B, hb⟩
  have c0 := B.c0
  rw [HYK.out] at c0
  have HB2 := Hid.mk hb
  clear B hb
  go_wp2_with fail
  go_ret
  exact ⟨rfl, HB2.out⟩
end Go.Proofs.Ytalhnnjpjaeakaa
/- Steps over references, nodes and digests whole: load, store, the zero value, what is the same. -/
namespace Go.Proofs.Ytalhnnjpjaeakaa
open Go.RowKit
set_option linter.unusedVariables false
set_option maxRecDepth 100000
def B8 (bs : List Int) : Array Value := (bs.map (Value.int .u8)).toArray
theorem B8_size (bs : List Int) : (B8 bs).size = bs.length := by simp [B8]
theorem B8_get (bs : List Int) (k : Nat) (h : k < bs.length) : (B8 bs)[k]? = some (.int .u8 (bs.getD k 0)) := by simp [B8, h]
theorem eq_loop (xs ys : List Int) (hx : xs.length = 32) (hy : ys.length = 32) (d : Nat) : ∀ (n k : Nat) (w : World), k + n = 32 →
    (forIn (m := Sem) (List.range' k n) ((none : Option Bool), ()) fun i _ => do
            let a ← part 5 (B8 xs) (i * 1)
            let b ← part 5 (B8 ys) (i * 1)
            let r ← Op.equalIn (d + 1) 5 a b
            if (!r) = true then pure (ForInStep.done (some false, ())) else pure (ForInStep.yield (none, ()))).run Try.prog w =
      .ok (if xs.drop k == ys.drop k then (none, ()) else (some false, ())) w
  | 0, k, w, hk => by
    have e1 : xs.drop k = [] := List.drop_eq_nil_of_le (by omega)
    have e2 : ys.drop k = [] := List.drop_eq_nil_of_le (by omega)
    rw [e1, e2]
    simp
  | n + 1, k, w, hk => by
    have ih := eq_loop xs ys hx hy d n (k + 1) w (by omega)
    have hlx : k < xs.length := by omega
    have hly : k < ys.length := by omega
    have px : (part 5 (B8 xs) (k * 1)).run Try.prog w = .ok (.int .u8 (xs.getD k 0)) w := by
      simp only [part, Sem.run_bind, isAgg, run_underlying Try.underlying5, Result.andThen_ok, Sem.run_pure, Bool.false_eq_true, if_false, Nat.mul_one, B8_get xs k hlx]
    have py : (part 5 (B8 ys) (k * 1)).run Try.prog w = .ok (.int .u8 (ys.getD k 0)) w := by
      simp only [part, Sem.run_bind, isAgg, run_underlying Try.underlying5, Result.andThen_ok, Sem.run_pure, Bool.false_eq_true, if_false, Nat.mul_one, B8_get ys k hly]
    have pe := run_equalIn_int w d 5 .u8 .u8 (xs.getD k 0) (ys.getD k 0) (P := Try.prog) Try.underlying5
    have dx : xs.drop k = xs.getD k 0 :: xs.drop (k + 1) := by rw [List.drop_eq_getElem_cons hlx]; simp [List.getD, List.getElem?_eq_getElem hlx]
    have dy : ys.drop k = ys.getD k 0 :: ys.drop (k + 1) := by rw [List.drop_eq_getElem_cons hly]; simp [List.getD, List.getElem?_eq_getElem hly]
    rw [List.range'_succ, List.forIn_cons]
    simp only [Sem.run_bind, px, py, pe, Result.andThen_ok]
    rw [dx, dy, List.cons_beq_cons]
    cases hc : (xs.getD k 0 == ys.getD k 0) with
    | false => simp
    | true =>
      simp only [Bool.not_true, Bool.false_eq_true, if_false, Sem.run_pure, Result.andThen_ok, Bool.true_and]
      exact ih
theorem eq_arr (xs ys : List Int) (hx : xs.length = 32) (hy : ys.length = 32) (d : Nat) (w : World) :
    (Op.equalIn (d + 1 + 1) 38 (.agg (B8 xs)) (.agg (B8 ys))).run Try.prog w = .ok (xs == ys) w := by
  have hs : (Try.prog.info? 5).map (·.size) = some 1 := by kernel_rfl
  cases hq : Try.prog.info? 5 with
  | none => simp [hq] at hs
  | some y =>
    have hy1 : y.size = 1 := by simpa [hq] using hs
    rw [Op.equalIn]
    simp only [Sem.run_bind, run_underlying Try.underlying38, Result.andThen_ok, sizeOf, typeInfo, run_program, hq, hy1, Sem.run_pure]
    have e := eq_loop xs ys hx hy d 32 0 w (by omega)
    rw [Std.Legacy.Range.forIn_eq_forIn_range']
    simp only [Std.Legacy.Range.size, List.drop_zero] at e ⊢
    rw [show (32 - 0 + 1 - 1) / 1 = 32 from rfl]
    rw [e]
    cases xs == ys <;> simp
theorem eqD (xs ys : List Int) (hx : xs.length = 32) (hy : ys.length = 32) (w : World) : (Op.equalIn 10000 38 (.agg (B8 xs)) (.agg (B8 ys))).run Try.prog w = .ok (xs == ys) w := eq_arr xs ys hx hy 9998 w
section
variable {w : World} {ops : Array Oper} {rest : List Oper} {o : Oper} {a : Act} {Q : Exit → Act → World → Prop}
theorem wants (hw : Region.wanted o (yielded ops a.tmps) = true) (h : ∀ K : Act → World → Prop, (∀ a w, wpList Try.prog ops Q rest a w → K a w) → o.wp Try.prog a w K Q) : wpList Try.prog ops Q (o :: rest) a w :=
  wpList_step fun K hK => by rw [if_pos hw]; exact h K hK
theorem wpl_eqD (hw : Region.wanted o (yielded ops a.tmps) = true) (x y : Operand) (ho : o.op = .binOp .eql 38 x y 38) (xs ys : List Int) (hx : a.eval x = .agg (B8 xs)) (hy : a.eval y = .agg (B8 ys)) (lx : xs.length = 32) (ly : ys.length = 32) (q : Bool) (hq : (xs == ys) = q)
    (h : wpList Try.prog ops Q rest (a.put o.dst (.bool q)) w) : wpList Try.prog ops Q (o :: rest) a w := by
  subst hq
  refine wants hw fun K hK => ?_
  have e := eqD xs ys lx ly
  unfold Oper.wp execOp
  simp only [ho, hx, hy]
  go_simp
  exact hK _ _ h
theorem wpl_neD (hw : Region.wanted o (yielded ops a.tmps) = true) (x y : Operand) (ho : o.op = .binOp .neq 38 x y 38) (xs ys : List Int) (hx : a.eval x = .agg (B8 xs)) (hy : a.eval y = .agg (B8 ys)) (lx : xs.length = 32) (ly : ys.length = 32) (q : Bool) (hq : (!(xs == ys)) = q)
    (h : wpList Try.prog ops Q rest (a.put o.dst (.bool q)) w) : wpList Try.prog ops Q (o :: rest) a w := by
  subst hq
  refine wants hw fun K hK => ?_
  have e := eqD xs ys lx ly
  unfold Oper.wp execOp
  simp only [ho, hx, hy]
  go_simp
  exact hK _ _ h
theorem wpl_load (hw : Region.wanted o (yielded ops a.tmps) = true) (ty : TypeId) (x : Operand) (ho : o.op = .load ty x) (b off : Nat) (hx : a.eval x = .pointer (some ⟨b, off, none⟩)) (cs : List Value) (d : TypeDesc) (hc : w.rangeAt b off cs)
    (hu : Try.prog.underlying ty = some d) (hd : d.isRow = true) (hi : (Try.prog.info? ty).map (·.size) = some cs.length) (h : wpList Try.prog ops Q rest (a.put o.dst (.agg cs.toArray)) w) : wpList Try.prog ops Q (o :: rest) a w :=
  wants hw fun _ hK => wp_load_mid ty x ho b off hx cs d hc hu hd hi (hK _ _ h)
theorem wpl_loadN (hw : Region.wanted o (yielded ops a.tmps) = true) (x : Operand) (ho : o.op = .load 77 x) (b : Nat) (hx : a.eval x = .pointer (some ⟨b, 0, none⟩)) (y : NV) (hc : NBx b w y)
    (h : wpList Try.prog ops Q rest (a.put o.dst (.agg y.cells.toArray)) w) : wpList Try.prog ops Q (o :: rest) a w :=
  wpl_load hw 77 x ho b 0 hx y.cells _ hc.all Try.underlying77 rfl (by rw [infoN, NV.len hc.l]) h
theorem wpl_loadR (hw : Region.wanted o (yielded ops a.tmps) = true) (x : Operand) (ho : o.op = .load 74 x) (b off : Nat) (hx : a.eval x = .pointer (some ⟨b, off, none⟩)) (y : RV) (hl : y.d.length = 32) (hc : w.rangeAt b off y.cells)
    (h : wpList Try.prog ops Q rest (a.put o.dst (.agg y.cells.toArray)) w) : wpList Try.prog ops Q (o :: rest) a w :=
  wpl_load hw 74 x ho b off hx y.cells _ hc Try.underlying74 rfl (by rw [infoR, RV.len hl]) h
theorem wpl_loadD (hw : Region.wanted o (yielded ops a.tmps) = true) (x : Operand) (ho : o.op = .load 38 x) (b off : Nat) (hx : a.eval x = .pointer (some ⟨b, off, none⟩)) (ds : List Int) (hl : ds.length = 32) (hc : w.rangeAt b off (ds.map (Value.int .u8)))
    (h : wpList Try.prog ops Q rest (a.put o.dst (.agg (B8 ds))) w) : wpList Try.prog ops Q (o :: rest) a w :=
  wpl_load hw 38 x ho b off hx (ds.map (Value.int .u8)) _ hc Try.underlying38 rfl (by rw [infoD, List.length_map, hl]) h
theorem wpl_build (hw : Region.wanted o (yielded ops a.tmps) = true) (t : TypeId) (parts : Array (Nat × Operand)) (ho : o.op = .build t parts) (cells : Array Value) (hf : Try.prog.built t (parts.map fun (i, x) => (i, a.eval x)).toList = some cells)
    (h : wpList Try.prog ops Q rest (a.put o.dst (.agg cells)) w) : wpList Try.prog ops Q (o :: rest) a w := by
  exact wants hw fun _ hK => wp_build t parts ho (by rw [hf]; rfl) (by rw [hf]; exact hK _ _ h)
end
theorem built_D : Try.prog.built 38 [] = some (B8 z32) := by kernel_rfl
theorem built_N : Try.prog.built 77 [] = some nz.cells.toArray := by kernel_rfl
theorem built_R : Try.prog.built 74 [] = some rz.cells.toArray := by kernel_rfl
theorem built_R1f : (fun (a : Option Addr) (n c : Nat) => Try.prog.built 74 [(0, .int .i64 1), (2, .slice a n c)]) = fun a n c => some (RV.cells ⟨1, z32, a, n, c⟩).toArray := by kernel_rfl
theorem built_R1 (a : Option Addr) (n c : Nat) : Try.prog.built 74 [(0, .int .i64 1), (2, .slice a n c)] = some (RV.cells ⟨1, z32, a, n, c⟩).toArray := congrFun (congrFun (congrFun built_R1f a) n) c
theorem built_R2 : Try.prog.built 74 [(0, .int .i64 2)] = some (RV.cells ⟨2, z32, none, 0, 0⟩).toArray := by kernel_rfl
theorem built_N1f : (fun (pa : Option Addr) (pn pc : Nat) (va : Option Addr) (vn vc : Nat) => Try.prog.built 77 [(0, .int .i64 1), (1, .slice pa pn pc), (2, .slice va vn vc)]) = fun pa pn pc va vn vc => some (NV.cells ⟨1, pa, pn, pc, va, vn, vc, rz, none, 0, 0⟩).toArray := by kernel_rfl
theorem built_N1 (pa : Option Addr) (pn pc : Nat) (va : Option Addr) (vn vc : Nat) : Try.prog.built 77 [(0, .int .i64 1), (1, .slice pa pn pc), (2, .slice va vn vc)] = some (NV.cells ⟨1, pa, pn, pc, va, vn, vc, rz, none, 0, 0⟩).toArray := congrFun (congrFun (congrFun (congrFun (congrFun (congrFun built_N1f pa) pn) pc) va) vn) vc
theorem built_N3f : (fun (va : Option Addr) (vn vc : Nat) (ka : Option Addr) (kn kc : Nat) => Try.prog.built 77 [(0, .int .i64 3), (2, .slice va vn vc), (4, .slice ka kn kc)]) = fun va vn vc ka kn kc => some (NV.cells ⟨3, none, 0, 0, va, vn, vc, rz, ka, kn, kc⟩).toArray := by kernel_rfl
theorem built_N3 (va : Option Addr) (vn vc : Nat) (ka : Option Addr) (kn kc : Nat) : Try.prog.built 77 [(0, .int .i64 3), (2, .slice va vn vc), (4, .slice ka kn kc)] = some (NV.cells ⟨3, none, 0, 0, va, vn, vc, rz, ka, kn, kc⟩).toArray := congrFun (congrFun (congrFun (congrFun (congrFun (congrFun built_N3f va) vn) vc) ka) kn) kc
theorem built_N2f : (fun (pa : Option Addr) (pn pc : Nat) (k : Int) (a : Option Addr) (n c : Nat) (d0 d1 d2 d3 d4 d5 d6 d7 d8 d9 d10 d11 d12 d13 d14 d15 d16 d17 d18 d19 d20 d21 d22 d23 d24 d25 d26 d27 d28 d29 d30 d31 : Int) => Try.prog.built 77 [(0, .int .i64 2), (1, .slice pa pn pc), (3, .agg (RV.cells ⟨k, [d0, d1, d2, d3, d4, d5, d6, d7, d8, d9, d10, d11, d12, d13, d14, d15, d16, d17, d18, d19, d20, d21, d22, d23, d24, d25, d26, d27, d28, d29, d30, d31], a, n, c⟩).toArray)]) =
    fun pa pn pc k a n c d0 d1 d2 d3 d4 d5 d6 d7 d8 d9 d10 d11 d12 d13 d14 d15 d16 d17 d18 d19 d20 d21 d22 d23 d24 d25 d26 d27 d28 d29 d30 d31 => some (NV.cells ⟨2, pa, pn, pc, none, 0, 0, ⟨k, [d0, d1, d2, d3, d4, d5, d6, d7, d8, d9, d10, d11, d12, d13, d14, d15, d16, d17, d18, d19, d20, d21, d22, d23, d24, d25, d26, d27, d28, d29, d30, d31], a, n, c⟩, none, 0, 0⟩).toArray := by kernel_rfl
theorem built_N2 (pa : Option Addr) (pn pc : Nat) (r : RV) (h : r.d.length = 32) : Try.prog.built 77 [(0, .int .i64 2), (1, .slice pa pn pc), (3, .agg r.cells.toArray)] = some (NV.cells ⟨2, pa, pn, pc, none, 0, 0, r, none, 0, 0⟩).toArray := by
  obtain ⟨k, d, a, n, c⟩ := r
  match d, h with
  | [d0, d1, d2, d3, d4, d5, d6, d7, d8, d9, d10, d11, d12, d13, d14, d15, d16, d17, d18, d19, d20, d21, d22, d23, d24, d25, d26, d27, d28, d29, d30, d31], _ =>
    have e := built_N2f
    have e := congrFun e pa
    have e := congrFun e pn
    have e := congrFun e pc
    have e := congrFun e k
    have e := congrFun e a
    have e := congrFun e n
    have e := congrFun e c
    have e := congrFun e d0
    have e := congrFun e d1
    have e := congrFun e d2
    have e := congrFun e d3
    have e := congrFun e d4
    have e := congrFun e d5
    have e := congrFun e d6
    have e := congrFun e d7
    have e := congrFun e d8
    have e := congrFun e d9
    have e := congrFun e d10
    have e := congrFun e d11
    have e := congrFun e d12
    have e := congrFun e d13
    have e := congrFun e d14
    have e := congrFun e d15
    have e := congrFun e d16
    have e := congrFun e d17
    have e := congrFun e d18
    have e := congrFun e d19
    have e := congrFun e d20
    have e := congrFun e d21
    have e := congrFun e d22
    have e := congrFun e d23
    have e := congrFun e d24
    have e := congrFun e d25
    have e := congrFun e d26
    have e := congrFun e d27
    have e := congrFun e d28
    have e := congrFun e d29
    have e := congrFun e d30
    have e := congrFun e d31
    exact e
end Go.Proofs.Ytalhnnjpjaeakaa

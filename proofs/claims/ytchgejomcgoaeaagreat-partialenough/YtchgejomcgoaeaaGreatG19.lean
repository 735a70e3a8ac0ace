/- What inlineKind and rightRef answer, where Decode of what is inline answers as it should. -/
import Derived.Test.YtchgejomcgoaeaaGreatG18
set_option linter.unusedVariables false
set_option maxRecDepth 100000
namespace Go.Proofs.YtchgejomcgoaeaaGreat
open Go.RowKit
variable {w : World} {g : Nat} {y : RV}
def rz : RV := ⟨0, z32, none, 0, 0⟩
def nz : NV := ⟨0, none, 0, 0, none, 0, 0, rz, none, 0, 0⟩
def DPost (w : World) (o : Option PN) : Ending → World → Prop := fun e w' => Below w.heap.size w w' ∧
  match o with
  | none => e = .returned (.tuple #[.agg nz.cells.toArray, .int .i64 50])
  | some n => ∃ y : NV, e = .returned (.tuple #[.agg y.cells.toArray, .int .i64 0]) ∧ NodeAt (Own w.heap.size w') w' y n
def DecSaid (b : List Int) : Prop := ∀ (a : Option Addr) (n c : Nat) (w : World), Ag w a n c b → n ≤ 140737488351232 → Calls Tryz.prog 28 #[.slice a n c] w (DPost w (ND b))
theorem Zv2 {o : Option PN} {e : Ending} {w' : World} (h : DPost w o e w') : Below w.heap.size w w' ∧ ∃ y : NV, ∃ er : Int, e = .returned (.tuple #[.agg y.cells.toArray, .int .i64 er]) ∧ y.k = kd o ∧ y.c.d.length = 32 := by
  obtain ⟨hb, hm⟩ := h
  refine ⟨hb, ?_⟩
  cases o with
  | none => exact ⟨nz, 50, hm, rfl, rfl⟩
  | some n =>
    obtain ⟨y, e1, hy⟩ := hm
    exact ⟨y, 0, e1, hy.k, hy.c.len⟩
theorem Below.setRow {B : Nat} {w0 : World} (h : Below B w0 w) (hg : B ≤ g) (cs : Array Value) : Below B w0 (w.setRow g cs) :=
  h.trans ⟨rfl, rfl, rfl, by simp, fun k hk => setRow_other w g k cs (by omega)⟩
theorem Zxt : (nz.cells.toArray : Array Value).size = 38 := rfl
set_option maxHeartbeats 1000000 in
theorem Zd8 (K : Nat → Prop) (x : RV) (r : PR) (w : World) (h : RefAt K w x r) (hd : DecSaid r.i) :
    Calls Tryz.prog 115 #[.agg x.cells.toArray] w fun e w' => e = .returned (.int .i64 (KD r.i)) ∧ Below w.heap.size w w' := by
  have B := Zkt w x h.len
  have HB := Hid.mk (below_new w (.cells x.cells.toArray 65))
  have HD := Hid.mk (show ∀ v, Below w.heap.size w v → Calls Tryz.prog 28 #[.slice x.a x.n x.c] v (DPost v (ND r.i)) from fun v hv => hd _ _ _ v (h.2.2.2.2.1.at hv) h.2.2.2.2.2.1)
  obtain ⟨kr, hkr⟩ : ∃ kr, KD r.i = kr := ⟨_, rfl⟩
  have HK := Hid.mk (show kd (ND r.i) = kr from hkr)
  rw [hkr]
  clear h hd hkr
  go_enter Tryz.func115, Tryz.ntmps115
  go_upto_region 1 with fail
  refine gen_w (p := fun v => Code.wp _ _ _ _ v) (q := fun v => RBx w.heap.size v x ∧ Below w.heap.size w v) ⟨B, HB.out⟩ ?_
  clear B HB
  rintro v ⟨B, hb⟩
  have HB := Hid.mk hb
  have c0 := B.c33
  clear hb B
  go_wp2_with fail
  refine (HD.out v HB.out).mono ?_
  intro e w1 hp
  obtain ⟨hb1, y, er, rfl, hyk, hyl⟩ := Zv2 hp
  rw [HK.out] at hyk
  have HB1 := Hid.mk (below_go HB.out hb1)
  have HS := Hid.mk (show (nz.cells.toArray : Array Value).size = y.cells.toArray.size from by rw [Zxt, List.size_toArray, NV.len hyl])
  have HI := Hid.mk (show (Tryz.prog.info? 68).map (·.size) = some y.cells.toArray.size from by rw [Zqf, List.size_toArray, NV.len hyl])
  have HO := Hid.mk (all_oneCell_toArray y.one)
  have HYK := Hid.mk hyk
  have HYL := Hid.mk hyl
  clear hp hb1 hyk hyl HD HK HB c0
  go_upto_region 2 with (first | refine wpList_store_row rfl 68 _ _ rfl _ y.cells.toArray rfl rfl 68 _ (heap_alloc_new w1 _) HI.out HS.out HO.out ?_)
  refine gen_w (p := fun v => Code.wp _ _ _ _ v) (q := fun v => NBx w1.heap.size v y ∧ Below w.heap.size w v) ⟨⟨setRow_heap _ _ _ _ _ _ (heap_alloc_new w1 _), HYL.out⟩, Below.setRow (HB1.out.alloc HB1.out.size _) HB1.out.size _⟩ ?_
  rintro v2 ⟨B, hb⟩
  have c0 := B.c0
  rw [HYK.out] at c0
  have HB2 := Hid.mk hb
  clear B hb
  go_wp2_with fail
  go_ret
  exact ⟨rfl, HB2.out⟩
def B8 (bs : List Int) : Array Value := (bs.map (Value.int .u8)).toArray
theorem B8_size (bs : List Int) : (B8 bs).size = bs.length := by simp [B8]
theorem B8_get (bs : List Int) (k : Nat) (h : k < bs.length) : (B8 bs)[k]? = some (.int .u8 (bs.getD k 0)) := by simp [B8, h]
theorem Zqp (xs ys : List Int) (hx : xs.length = 32) (hy : ys.length = 32) (d : Nat) : ∀ (n k : Nat) (w : World), k + n = 32 →
    (forIn (m := Sem) (List.range' k n) ((none : Option Bool), ()) fun i _ => do
            let a ← part 5 (B8 xs) (i * 1)
            let b ← part 5 (B8 ys) (i * 1)
            let r ← Op.equalIn (d + 1) 5 a b
            if (!r) = true then pure (ForInStep.done (some false, ())) else pure (ForInStep.yield (none, ()))).run Tryz.prog w =
      .ok (if xs.drop k == ys.drop k then (none, ()) else (some false, ())) w
  | 0, k, w, hk => by
    have e1 : xs.drop k = [] := List.drop_eq_nil_of_le (by omega)
    have e2 : ys.drop k = [] := List.drop_eq_nil_of_le (by omega)
    rw [e1, e2]
    simp
  | n + 1, k, w, hk => by
    have ih := Zqp xs ys hx hy d n (k + 1) w (by omega)
    have hlx : k < xs.length := by omega
    have hly : k < ys.length := by omega
    have px : (part 5 (B8 xs) (k * 1)).run Tryz.prog w = .ok (.int .u8 (xs.getD k 0)) w := by
      simp only [part, Sem.run_bind, isAgg, run_underlying Tryz.underlying5, Result.andThen_ok, Sem.run_pure, Bool.false_eq_true, if_false, Nat.mul_one, B8_get xs k hlx]
    have py : (part 5 (B8 ys) (k * 1)).run Tryz.prog w = .ok (.int .u8 (ys.getD k 0)) w := by
      simp only [part, Sem.run_bind, isAgg, run_underlying Tryz.underlying5, Result.andThen_ok, Sem.run_pure, Bool.false_eq_true, if_false, Nat.mul_one, B8_get ys k hly]
    have pe := run_equalIn_int w d 5 .u8 .u8 (xs.getD k 0) (ys.getD k 0) (P := Tryz.prog) Tryz.underlying5
    have dx : xs.drop k = xs.getD k 0 :: xs.drop (k + 1) := by rw [List.drop_eq_getElem_cons hlx]; simp [List.getD, List.getElem?_eq_getElem hlx]
    have dy : ys.drop k = ys.getD k 0 :: ys.drop (k + 1) := by rw [List.drop_eq_getElem_cons hly]; simp [List.getD, List.getElem?_eq_getElem hly]
    rw [List.range'_succ, List.forIn_cons]
    simp only [Sem.run_bind, px, py, pe, Result.andThen_ok]
    rw [dx, dy, List.cons_beq_cons]
    cases hc : (xs.getD k 0 == ys.getD k 0) with
    | false => simp
    | true =>
      simp only [Bool.not_true, Bool.false_eq_true, if_false, Sem.run_pure, Result.andThen_ok, Bool.true_and]
      exact ih
theorem Zyd (xs ys : List Int) (hx : xs.length = 32) (hy : ys.length = 32) (d : Nat) (w : World) :
    (Op.equalIn (d + 1 + 1) 23 (.agg (B8 xs)) (.agg (B8 ys))).run Tryz.prog w = .ok (xs == ys) w := by
  have hs : (Tryz.prog.info? 5).map (·.size) = some 1 := by kernel_rfl
  cases hq : Tryz.prog.info? 5 with
  | none => simp [hq] at hs
  | some y =>
    have hy1 : y.size = 1 := by simpa [hq] using hs
    rw [Op.equalIn]
    simp only [Sem.run_bind, run_underlying Tryz.underlying23, Result.andThen_ok, sizeOf, typeInfo, run_program, hq, hy1, Sem.run_pure]
    have e := Zqp xs ys hx hy d 32 0 w (by omega)
    rw [Std.Legacy.Range.forIn_eq_forIn_range']
    simp only [Std.Legacy.Range.size, List.drop_zero] at e ⊢
    rw [show (32 - 0 + 1 - 1) / 1 = 32 from rfl]
    rw [e]
    cases xs == ys <;> simp
theorem eqD (xs ys : List Int) (hx : xs.length = 32) (hy : ys.length = 32) (w : World) : (Op.equalIn 10000 23 (.agg (B8 xs)) (.agg (B8 ys))).run Tryz.prog w = .ok (xs == ys) w := Zyd xs ys hx hy 9998 w
section
variable {w : World} {ops : Array Oper} {rest : List Oper} {o : Oper} {a : Act} {Q : Exit → Act → World → Prop}
theorem Zkn (hw : Region.wanted o (yielded ops a.tmps) = true) (h : ∀ K : Act → World → Prop, (∀ a w, wpList Tryz.prog ops Q rest a w → K a w) → o.wp Tryz.prog a w K Q) : wpList Tryz.prog ops Q (o :: rest) a w :=
  wpList_step fun K hK => by rw [if_pos hw]; exact h K hK
theorem Zf6 (hw : Region.wanted o (yielded ops a.tmps) = true) (x y : Operand) (ho : o.op = .binOp .eql 23 x y 23) (xs ys : List Int) (hx : a.eval x = .agg (B8 xs)) (hy : a.eval y = .agg (B8 ys)) (lx : xs.length = 32) (ly : ys.length = 32) (q : Bool) (hq : (xs == ys) = q)
    (h : wpList Tryz.prog ops Q rest (a.put o.dst (.bool q)) w) : wpList Tryz.prog ops Q (o :: rest) a w := by
  subst hq
  refine Zkn hw fun K hK => ?_
  have e := eqD xs ys lx ly
  unfold Oper.wp execOp
  simp only [ho, hx, hy]
  go_simp
  exact hK _ _ h
theorem Zf5 (hw : Region.wanted o (yielded ops a.tmps) = true) (x y : Operand) (ho : o.op = .binOp .neq 23 x y 23) (xs ys : List Int) (hx : a.eval x = .agg (B8 xs)) (hy : a.eval y = .agg (B8 ys)) (lx : xs.length = 32) (ly : ys.length = 32) (q : Bool) (hq : (!(xs == ys)) = q)
    (h : wpList Tryz.prog ops Q rest (a.put o.dst (.bool q)) w) : wpList Tryz.prog ops Q (o :: rest) a w := by
  subst hq
  refine Zkn hw fun K hK => ?_
  have e := eqD xs ys lx ly
  unfold Oper.wp execOp
  simp only [ho, hx, hy]
  go_simp
  exact hK _ _ h
theorem Zh9 (hw : Region.wanted o (yielded ops a.tmps) = true) (ty : TypeId) (x : Operand) (ho : o.op = .load ty x) (b off : Nat) (hx : a.eval x = .pointer (some ⟨b, off, none⟩)) (cs : List Value) (d : TypeDesc) (hc : w.rangeAt b off cs)
    (hu : Tryz.prog.underlying ty = some d) (hd : d.isRow = true) (hi : (Tryz.prog.info? ty).map (·.size) = some cs.length) (h : wpList Tryz.prog ops Q rest (a.put o.dst (.agg cs.toArray)) w) : wpList Tryz.prog ops Q (o :: rest) a w :=
  Zkn hw fun _ hK => wp_load_mid ty x ho b off hx cs d hc hu hd hi (hK _ _ h)
theorem Zb4 (hw : Region.wanted o (yielded ops a.tmps) = true) (x : Operand) (ho : o.op = .load 68 x) (b : Nat) (hx : a.eval x = .pointer (some ⟨b, 0, none⟩)) (y : NV) (hc : NBx b w y)
    (h : wpList Tryz.prog ops Q rest (a.put o.dst (.agg y.cells.toArray)) w) : wpList Tryz.prog ops Q (o :: rest) a w :=
  Zh9 hw 68 x ho b 0 hx y.cells _ hc.all Tryz.underlying68 rfl (by rw [Zqf, NV.len hc.l]) h
theorem Zbf (hw : Region.wanted o (yielded ops a.tmps) = true) (x : Operand) (ho : o.op = .load 65 x) (b off : Nat) (hx : a.eval x = .pointer (some ⟨b, off, none⟩)) (y : RV) (hl : y.d.length = 32) (hc : w.rangeAt b off y.cells)
    (h : wpList Tryz.prog ops Q rest (a.put o.dst (.agg y.cells.toArray)) w) : wpList Tryz.prog ops Q (o :: rest) a w :=
  Zh9 hw 65 x ho b off hx y.cells _ hc Tryz.underlying65 rfl (by rw [Zhi, RV.len hl]) h
theorem Zdl (hw : Region.wanted o (yielded ops a.tmps) = true) (x : Operand) (ho : o.op = .load 23 x) (b off : Nat) (hx : a.eval x = .pointer (some ⟨b, off, none⟩)) (ds : List Int) (hl : ds.length = 32) (hc : w.rangeAt b off (ds.map (Value.int .u8)))
    (h : wpList Tryz.prog ops Q rest (a.put o.dst (.agg (B8 ds))) w) : wpList Tryz.prog ops Q (o :: rest) a w :=
  Zh9 hw 23 x ho b off hx (ds.map (Value.int .u8)) _ hc Tryz.underlying23 rfl (by rw [Zv7, List.length_map, hl]) h
end
theorem Zq0 : (fun (pa : Option Addr) (pn pc : Nat) (va : Option Addr) (vn vc : Nat) => Tryz.prog.built 68 [(0, .int .i64 1), (1, .slice pa pn pc), (2, .slice va vn vc)]) = fun pa pn pc va vn vc => some (NV.cells ⟨1, pa, pn, pc, va, vn, vc, rz, none, 0, 0⟩).toArray := by kernel_rfl
theorem Zmx (pa : Option Addr) (pn pc : Nat) (va : Option Addr) (vn vc : Nat) : Tryz.prog.built 68 [(0, .int .i64 1), (1, .slice pa pn pc), (2, .slice va vn vc)] = some (NV.cells ⟨1, pa, pn, pc, va, vn, vc, rz, none, 0, 0⟩).toArray := congrFun (congrFun (congrFun (congrFun (congrFun (congrFun Zq0 pa) pn) pc) va) vn) vc
theorem Zqy : (fun (va : Option Addr) (vn vc : Nat) (ka : Option Addr) (kn kc : Nat) => Tryz.prog.built 68 [(0, .int .i64 3), (2, .slice va vn vc), (4, .slice ka kn kc)]) = fun va vn vc ka kn kc => some (NV.cells ⟨3, none, 0, 0, va, vn, vc, rz, ka, kn, kc⟩).toArray := by kernel_rfl
theorem Zmw (va : Option Addr) (vn vc : Nat) (ka : Option Addr) (kn kc : Nat) : Tryz.prog.built 68 [(0, .int .i64 3), (2, .slice va vn vc), (4, .slice ka kn kc)] = some (NV.cells ⟨3, none, 0, 0, va, vn, vc, rz, ka, kn, kc⟩).toArray := congrFun (congrFun (congrFun (congrFun (congrFun (congrFun Zqy va) vn) vc) ka) kn) kc
theorem Zqz : (fun (pa : Option Addr) (pn pc : Nat) (k : Int) (a : Option Addr) (n c : Nat) (d0 d1 d2 d3 d4 d5 d6 d7 d8 d9 d10 d11 d12 d13 d14 d15 d16 d17 d18 d19 d20 d21 d22 d23 d24 d25 d26 d27 d28 d29 d30 d31 : Int) => Tryz.prog.built 68 [(0, .int .i64 2), (1, .slice pa pn pc), (3, .agg (RV.cells ⟨k, [d0, d1, d2, d3, d4, d5, d6, d7, d8, d9, d10, d11, d12, d13, d14, d15, d16, d17, d18, d19, d20, d21, d22, d23, d24, d25, d26, d27, d28, d29, d30, d31], a, n, c⟩).toArray)]) =
    fun pa pn pc k a n c d0 d1 d2 d3 d4 d5 d6 d7 d8 d9 d10 d11 d12 d13 d14 d15 d16 d17 d18 d19 d20 d21 d22 d23 d24 d25 d26 d27 d28 d29 d30 d31 => some (NV.cells ⟨2, pa, pn, pc, none, 0, 0, ⟨k, [d0, d1, d2, d3, d4, d5, d6, d7, d8, d9, d10, d11, d12, d13, d14, d15, d16, d17, d18, d19, d20, d21, d22, d23, d24, d25, d26, d27, d28, d29, d30, d31], a, n, c⟩, none, 0, 0⟩).toArray := by kernel_rfl
theorem Zi6 (pa : Option Addr) (pn pc : Nat) (r : RV) (h : r.d.length = 32) : Tryz.prog.built 68 [(0, .int .i64 2), (1, .slice pa pn pc), (3, .agg r.cells.toArray)] = some (NV.cells ⟨2, pa, pn, pc, none, 0, 0, r, none, 0, 0⟩).toArray := by
  obtain ⟨k, d, a, n, c⟩ := r
  match d, h with
  | [d0, d1, d2, d3, d4, d5, d6, d7, d8, d9, d10, d11, d12, d13, d14, d15, d16, d17, d18, d19, d20, d21, d22, d23, d24, d25, d26, d27, d28, d29, d30, d31], _ =>
    have e := Zqz
    have e := congrFun e pa
    have e := congrFun e pn
    have e := congrFun e pc
    have e := congrFun e k
    have e := congrFun e a
    have e := congrFun e n
    have e := congrFun e c
    have e := congrFun e d0
    have e := congrFun e d1
    have e := congrFun e d2
    have e := congrFun e d3
    have e := congrFun e d4
    have e := congrFun e d5
    have e := congrFun e d6
    have e := congrFun e d7
    have e := congrFun e d8
    have e := congrFun e d9
    have e := congrFun e d10
    have e := congrFun e d11
    have e := congrFun e d12
    have e := congrFun e d13
    have e := congrFun e d14
    have e := congrFun e d15
    have e := congrFun e d16
    have e := congrFun e d17
    have e := congrFun e d18
    have e := congrFun e d19
    have e := congrFun e d20
    have e := congrFun e d21
    have e := congrFun e d22
    have e := congrFun e d23
    have e := congrFun e d24
    have e := congrFun e d25
    have e := congrFun e d26
    have e := congrFun e d27
    have e := congrFun e d28
    have e := congrFun e d29
    have e := congrFun e d30
    have e := congrFun e d31
    exact e
theorem Zco {fn : Func} {p u : Tmp} (h : fn.results = #[.cell p 65, .tmp u]) (tmps : Array Value) (w : World) (g : Nat) (y : RV) (hl : y.d.length = 32) (hp : tmps.getD p undef = .pointer (some ⟨g, 0, none⟩)) (hg : w.heap[g]? = some (.cells y.cells.toArray 65)) :
    (results fn tmps).run Tryz.prog w = .ok (.tuple #[.agg y.cells.toArray, tmps.getD u undef]) w := by
  have hp' : tmps[p]?.getD undef = .pointer (some ⟨g, 0, none⟩) := by simpa using hp
  have hr := run_loadVar_row (P := Tryz.prog) w g 65 65 y.cells.toArray (0, 0) _ hg Tryz.underlying65 rfl (by rw [Zhi, List.size_toArray, RV.len hl])
  simp [results, h, hp', asAddr, hr]
def RPost (w : World) (o : Option PR) : Ending → World → Prop := fun e w' => Below w.heap.size w w' ∧
  match o with
  | none => ∃ y : RV, y.d.length = 32 ∧ e = .returned (.tuple #[.agg y.cells.toArray, .bool false])
  | some r => ∃ y : RV, e = .returned (.tuple #[.agg y.cells.toArray, .bool true]) ∧ RefAt (Own w.heap.size w') w' y r
theorem Zha (K : Nat → Prop) (w : World) : AgK K w none 0 0 [] := ⟨⟨.inl ⟨rfl, rfl⟩, fun _ => ⟨rfl, rfl⟩, rfl, fun x hx => by cases hx⟩, by omega, fun g off e => by cases e⟩
theorem Zk5 : isB z32 := fun x hx => by rw [z32, List.mem_replicate] at hx; omega
theorem Ze8 (K : Nat → Prop) (w : World) : RefAt K w rz r0 := ⟨rfl, rfl, Zk5, rfl, Zha K w⟩
theorem Zbq (h : y.d.length = 32) : (rz.cells.toArray : Array Value).size = y.cells.toArray.size := by rw [List.size_toArray, List.size_toArray, RV.len h]; rfl
theorem Zbw (h : y.d.length = 32) : (Tryz.prog.info? 65).map (·.size) = some y.cells.toArray.size := by rw [Zhi, List.size_toArray, RV.len h]
structure Rr (w v : World) (x : V) : Prop where
  row : v.heap[w.heap.size + 1]? = some (.cells rz.cells.toArray 65)
  bx : B1 w.heap.size v x
  bel : Below w.heap.size w v
  sz : w.heap.size + 2 ≤ v.heap.size
theorem Rr.go {v v' : World} {x : V} (h : Rr w v x) (hb : Below v.heap.size v v') : Rr w v' x := ⟨Below.row hb h.row, h.bx.go hb, below_go h.bel hb, Nat.le_trans h.sz hb.size⟩
theorem Zxg (w : World) (x : V) : Rr w ((w.alloc (.cells #[.bool x.l, .slice x.ba x.bn x.bc, .slice x.ia x.m x.ic] 76)).alloc (.cells rz.cells.toArray 65)) x := by
  have s1 : (w.alloc (.cells #[.bool x.l, .slice x.ba x.bn x.bc, .slice x.ia x.m x.ic] 76)).heap.size = w.heap.size + 1 := by simp
  refine ⟨?_, (Zfs w x).alloc _, below_go (below_new w _) (below_new _ _), by simp⟩
  have := heap_alloc_new (w.alloc (.cells #[.bool x.l, .slice x.ba x.bn x.bc, .slice x.ia x.m x.ic] 76)) (.cells rz.cells.toArray 65)
  rwa [s1] at this
theorem Keep.setRow {base base' : Nat} {v : World} {C : Array Value} (hg : g < base) (hb : base' ≤ base) : Keep (Own base v) (Own base' (v.setRow g C)) v (v.setRow g C) := fun k hK hk => by
  have e : (v.setRow g C).heap[k]? = v.heap[k]? := setRow_other _ _ _ _ (by have := hK.1; omega)
  exact ⟨e, Nat.le_trans hb hK.1, fun o => (World.frozen?_of_block (w := v) e).trans (hK.2 o)⟩
theorem Zte {N sc : Nat} {ad : Addr} {bs : List Int} (hN : w.heap[N]? = some (.cells (RV.cells ⟨2, z32, none, 0, 0⟩).toArray 65)) (hl : bs.length = 32) (hsrc : ∀ j v, (bs.map (Value.int .u8))[j]? = some v → w.cell? (ad.add j) = some v) (ty : TypeId) :
    (Builtin.copy_ #[29, 29] ty #[.slice (some ⟨N, 1, none⟩) 32 32, .slice (some ad) 32 sc]).run Tryz.prog w = .ok (.int .i64 32) (w.setRow N (RV.cells ⟨2, bs, none, 0, 0⟩).toArray) := by
  have h := run_copy_row Tryz.prog w 29 29 ty 5 N 1 32 32 ad 32 sc (RV.cells ⟨2, z32, none, 0, 0⟩).toArray 65 (bs.map (Value.int .u8)) Tryz.underlying29 (by kernel_rfl) hN (by rw [List.length_map, hl]; rfl) hsrc (by rw [List.length_map, hl]; decide) (B8_one2 _)
  rw [h, List.length_map, hl]
  rfl
set_option maxHeartbeats 4000000 in
theorem Zji (t : T) (x : V) (w : World) (h : Lies w t x) :
    Calls Tryz.prog 112 #[.agg #[.bool x.l, .slice x.ba x.bn x.bc, .slice x.ia x.m x.ic]] w (RPost w (refOfP t)) := by
  obtain ⟨l, bs, its⟩ := t
  obtain ⟨hl, hag, -⟩ := lies_eq.1 h
  have hbn : x.bn ≤ 140737488351232 := (lies_eq.1 h).2.2.2.2.2.1.1
  subst hl
  have HX := Hid.mk h
  have HAG := Hid.mk hag
  obtain ⟨res, hres⟩ : ∃ res, refOfP (.mk x.l bs its) = res := ⟨_, rfl⟩
  rw [hres]
  have hres : (if x.l = true then (if (mP (.mk x.l bs its)).2 = 0 then some (⟨1, z32, enc (.mk x.l bs its)⟩ : PR) else none) else if bs.length = 0 then some r0 else if bs.length = 32 then some ⟨2, bs, []⟩ else none) = res := hres
  rw [hag.l] at hres
  have HRES := Hid.mk hres
  have HRR := Hid.mk (Zxg w x)
  clear h hag hres
  go_enter Tryz.func112, Tryz.ntmps112
  go_upto_region 1 with fail
  refine gen_w (p := fun v => Code.wp _ _ _ _ v) (q := fun v => Rr w v x) HRR.out ?_
  clear HRR
  intro v RR
  have c0 := RR.bx.c0
  have c1 := RR.bx.c1
  have c2 := RR.bx.c2
  have HRR := Hid.mk RR
  clear RR
  by_cases hxl : x.l = true
  · have HE := Hid.mk (Zfe (.mk x.l bs its) x v (Zcq HRR.out.bel _ x HX.out))
    have HXL := Hid.mk hxl
    obtain ⟨xl, exl⟩ : ∃ xl, x.l = xl := ⟨_, rfl⟩
    have hres := HRES.out
    rw [if_pos hxl] at hres
    rw [hxl] at c0
    by_cases hm : (mP (.mk x.l bs its)).2 = 0
    · rw [if_pos hm] at hres
      subst hres
      have hp := Zmp hm
      have hle := Zyh hm
      rw [hp] at HE
      have HHLE := Hid.mk hle
      rw [show (((enc (T.mk x.l bs its), 0) : List Int × Nat).2 : Int) = 0 from rfl] at HE
      rw [show ((enc (T.mk x.l bs its), 0) : List Int × Nat).1 = enc (T.mk x.l bs its) from rfl] at HE
      generalize hen : enc (T.mk x.l bs its) = en at HE HHLE ⊢
      have hEx := HE.out
      rw [hxl] at hEx
      have HE2 := Hid.mk hEx
      have HEN := Hid.mk hen
      clear hp hle hm hen HE HRES hEx exl
      go_wp2_with fail
      refine HE2.out.mono ?_
      rintro e w1 ⟨⟨a, n, c, rfl, hag, hfr⟩, hb⟩
      have R1 := HRR.out.go hb
      have HAGK := Hid.mk (show AgK (Own (w.heap.size + 2) w1) w1 a n c en from ⟨hag, by have := hag.l; have := HHLE.out; omega, fun g off e h0 => by
        have := hfr g off e h0
        exact ⟨by have := HRR.out.sz; omega, this.2⟩⟩)
      have HR1 := Hid.mk R1
      have hl32 : z32.length = 32 := rfl
      clear hag hfr hb R1
      go_wp2_with (first | refine wpList_store_row rfl 65 _ _ rfl _ (RV.cells ⟨1, z32, a, n, c⟩).toArray rfl rfl 65 _ HR1.out.row (Zbw rfl) (Zbq rfl) (all_oneCell_toArray (RV.one _)) ?_)
      refine bodyPost_ret (Zco Tryz.results112 _ _ (w.heap.size + 1) ⟨1, z32, a, n, c⟩ rfl rfl (setRow_heap _ _ _ _ _ _ HR1.out.row)) rfl ?_
      exact ⟨Below.setRow HR1.out.bel (by omega) _, ⟨1, z32, a, n, c⟩, rfl, rfl, rfl, Zk5, rfl, by rw [HEN.out]; exact HAGK.out.go (Keep.setRow (base := w.heap.size + 2) (base' := w.heap.size) (g := w.heap.size + 1) (by omega) (by omega))⟩
    · rw [if_neg hm] at hres
      subst hres
      have hp := Zwf hm
      rw [hp] at HE
      obtain ⟨er, her⟩ : ∃ er, (mP (.mk x.l bs its)).2 = er := ⟨_, rfl⟩
      rw [her] at HE hm
      have hee : ((er : Int) == 0) = false := by rw [beq_eq_false_iff_ne]; omega
      have hEx := HE.out
      rw [hxl] at hEx
      have HE2 := Hid.mk hEx
      clear hp hm her HE HRES hEx exl
      go_wp2_with fail
      refine HE2.out.mono ?_
      rintro e w1 ⟨⟨a, n, c, rfl, hag, hfr⟩, hb⟩
      have HR1 := Hid.mk (HRR.out.go hb)
      clear hag hfr hb
      go_wp2_with (first | refine wpList_store_row rfl 65 _ _ rfl _ (RV.cells ⟨1, z32, a, n, c⟩).toArray rfl rfl 65 _ HR1.out.row (Zbw rfl) (Zbq rfl) (all_oneCell_toArray (RV.one _)) ?_)
      refine bodyPost_ret (Zco Tryz.results112 _ _ (w.heap.size + 1) ⟨1, z32, a, n, c⟩ rfl rfl (setRow_heap _ _ _ _ _ _ HR1.out.row)) rfl ?_
      exact ⟨Below.setRow HR1.out.bel (by omega) _, ⟨1, z32, a, n, c⟩, rfl, rfl⟩
  · have hres := HRES.out
    rw [if_neg hxl] at hres
    have hxf : x.l = false := by simpa using hxl
    rw [hxf] at c0
    clear hxf hxl HRES HX
    by_cases h0 : x.bn = 0
    · rw [if_pos h0] at hres
      subst hres
      go_wp2_with (first | refine wpList_store_row rfl 65 _ _ rfl _ rz.cells.toArray rfl rfl 65 _ HRR.out.row (Zbw rfl) (Zbq rfl) (all_oneCell_toArray (RV.one _)) ?_)
      refine bodyPost_ret (Zco Tryz.results112 _ _ (w.heap.size + 1) rz rfl rfl (setRow_heap _ _ _ _ _ _ HRR.out.row)) rfl ?_
      exact ⟨Below.setRow HRR.out.bel (by omega) _, rz, rfl, Ze8 _ _⟩
    · rw [if_neg h0] at hres
      by_cases h32 : x.bn = 32
      · rw [if_pos h32] at hres
        subst hres
        have hz := HAG.out
        rw [h32] at hz c1
        obtain ⟨g, off, hba, _, _, hcs⟩ := ag_head hz (by omega)
        rw [hba] at c1
        have HBL := Hid.mk hz.l
        have HBB := Hid.mk hz.b
        have HCS := Hid.mk (show ∀ u, Below w.heap.size w u → ∀ j z, (bs.map (Value.int .u8))[j]? = some z → u.cell? ((⟨g, off, none⟩ : Addr).add j) = some z from fun u hu j z hz' => by
          have hj : j < 32 := by have := (List.getElem?_eq_some_iff.1 hz').1; rw [List.length_map, HBL.out] at this; exact this
          rw [Zbb, Zaw hu (hcs j hj), ← hz', List.getElem?_map, List.getD, List.getElem?_eq_getElem (by rw [HBL.out]; exact hj)]
          rfl)
        have HRB := Hid.mk hba
        have HR32 := Hid.mk h32
        clear hz hcs h0 h32 hba
        go_upto_region 9 with (first | refine wpList_store_row rfl 65 _ _ rfl _ (RV.cells ⟨2, z32, none, 0, 0⟩).toArray rfl rfl 65 _ (heap_alloc_new _ _) (Zbw rfl) (Zbq rfl) (all_oneCell_toArray (RV.one _)) ?_)
        refine gen_w (p := fun v => Code.wp _ _ _ _ v) (q := fun u => RBx v.heap.size u ⟨2, z32, none, 0, 0⟩ ∧ Rr w u x) ⟨⟨setRow_heap _ _ _ _ _ _ (heap_alloc_new _ _), rfl⟩, ?_⟩ ?_
        · refine HRR.out.go (Below.setRow (below_new v _) (Nat.le_refl _) _)
        rintro u ⟨B2, R2⟩
        have d1 := R2.bx.c1
        rw [show x.ba = some ⟨g, off, none⟩ from HRB.out] at d1
        rw [HR32.out] at d1
        have HCP := Hid.mk (Zte (w := u.drew) (N := v.heap.size) (sc := x.bc) B2.row HBL.out (HCS.out _ (R2.bel.drew)))
        have HB2 := Hid.mk B2
        have HR2 := Hid.mk R2
        have HVS := Hid.mk HRR.out.sz
        clear B2 R2 c0 c1 c2
        go_frame
        go_cut [] (fun u2 => RBx v.heap.size u2 ⟨2, bs, none, 0, 0⟩ ∧ u2.heap[w.heap.size + 1]? = some (.cells rz.cells.toArray 65) ∧ Below w.heap.size w u2)
        case first =>
          go_region_law (refine step_copy rfl _ _ 29 29 rfl _ _ rfl rfl (HCP.out _) ?_)
          all_goals
            go_wp2_with fail
            go_meet
            exact ⟨⟨setRow_heap _ _ _ _ _ _ HB2.out.row, HBL.out⟩, (setRow_other _ _ _ _ (by have := HVS.out; omega)).trans HR2.out.row, Below.setRow HR2.out.bel.drew (by have := HVS.out; omega) _⟩
        case rest =>
          obtain ⟨B3, r3, b3⟩ := hcut
          have HB3 := Hid.mk B3
          have HR3 := Hid.mk r3
          have HL3 := Hid.mk b3
          clear B3 r3 b3
          go_wp2_with (first | refine Zbf rfl _ rfl v.heap.size 0 rfl ⟨2, bs, none, 0, 0⟩ HBL.out HB3.out.all ?_ | refine wpList_store_row rfl 65 _ _ rfl _ (RV.cells ⟨2, bs, none, 0, 0⟩).toArray rfl rfl 65 _ HR3.out (Zbw HBL.out) (Zbq HBL.out) (all_oneCell_toArray (RV.one _)) ?_)
          refine bodyPost_ret (Zco Tryz.results112 _ _ (w.heap.size + 1) ⟨2, bs, none, 0, 0⟩ HBL.out rfl (setRow_heap _ _ _ _ _ _ HR3.out)) rfl ?_
          exact ⟨Below.setRow HL3.out (by omega) _, ⟨2, bs, none, 0, 0⟩, rfl, rfl, rfl, HBB.out, HBL.out, Zha _ _⟩
      · rw [if_neg h32] at hres
        subst hres
        go_wp2_with (first | refine wpList_store_row rfl 65 _ _ rfl _ rz.cells.toArray rfl rfl 65 _ HRR.out.row (Zbw rfl) (Zbq rfl) (all_oneCell_toArray (RV.one _)) ?_)
        refine bodyPost_ret (Zco Tryz.results112 _ _ (w.heap.size + 1) rz rfl rfl (setRow_heap _ _ _ _ _ _ HRR.out.row)) rfl ?_
        exact ⟨Below.setRow HRR.out.bel (by omega) _, rz, rfl, rfl⟩
end Go.Proofs.YtchgejomcgoaeaaGreat

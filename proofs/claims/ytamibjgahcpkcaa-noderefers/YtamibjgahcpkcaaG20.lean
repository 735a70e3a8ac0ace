/- More steps through a drawn region: a store, a build, loads of whole references, nodes and items. -/
import Derived.Test.YtamibjgahcpkcaaG17
import Derived.Test.YtamibjgahcpkcaaG12
import Derived.Test.YtamibjgahcpkcaaG18
namespace Go.Proofs.Ytamibjgahcpkcaa
open Go.RowKit
set_option linter.unusedVariables false
set_option maxRecDepth 100000
section
variable {md : Region.Mode} {ops : Array Oper} {Q : Exit → Act → World → Prop} {S : World → Prop} {fuel : Nat} {listed : Array Bool} {a : Act} {w : World}
/-- An operation that hands nothing on (a store). -/
theorem rd_run0 (i : Nat) {rs : List Nat} {w' : World} {o : Oper} (ho : ops[i]? = some o) (hd : o.dst = none) (hg : Region.wanted o (yielded ops a.tmps) = true) (hrun : (execOp a.eval o).run Try.prog w = .ok .skip w') (hS : S w')
    (h : wpAnyH Try.prog md ops Q S fuel (listed.setIfInBounds i true) a w') (hs : AllReadyH Try.prog md ops Q S fuel listed a w rs) : AllReadyH Try.prog md ops Q S fuel listed a w (i :: rs) :=
  AllReadyH.cons ho (fun K hK => by
    rw [if_pos hg]
    unfold Oper.wp
    rw [hrun, Oper.upon_skip]
    exact hK _ _ hS (fun _ => by rw [hd]; exact h)) hs
end
section
variable {ops : Array Oper} {Q : Exit → Act → World → Prop} {a : Act} {w w' : World} {rest : List Oper} {o : Oper}
theorem wl_region {id : Nat} (l : List Oper) (hl : ∀ j, l[j]? = ops[0 + j]?) (hn : ops.size = l.length) (h : wpList Try.prog ops Q l a w) : (Code.region id ops false).wp Try.prog Q a w := by
  refine wp_region ?_
  rw [hn, List.range_eq_range', wpOps_eq_wpList l 0 hl]
  exact h
theorem wl_run (d : Nat) (v : Value) (hd : o.dst = some d) (hw : Region.wanted o (yielded ops a.tmps) = true) (hrun : (execOp a.eval o).run Try.prog w = .ok (.value v) w') (h : wpList Try.prog ops Q rest (a.put (some d) v) w') : wpList Try.prog ops Q (o :: rest) a w :=
  wants hw fun K hK => by
    unfold Oper.wp
    rw [hrun, Oper.upon_value, hd]
    exact hK _ _ h
theorem wl_pure (d : Nat) (v : Value) (hd : o.dst = some d) (hw : Region.wanted o (yielded ops a.tmps) = true) (hrun : (execOp a.eval o).run Try.prog w = .ok (.value v) w) (h : wpList Try.prog ops Q rest (a.put (some d) v) w) : wpList Try.prog ops Q (o :: rest) a w := wl_run d v hd hw hrun h
theorem wl_skip (hd : o.dst = none) (hw : Region.wanted o (yielded ops a.tmps) = true) (hrun : (execOp a.eval o).run Try.prog w = .ok .skip w') (h : wpList Try.prog ops Q rest a w') : wpList Try.prog ops Q (o :: rest) a w :=
  wants hw fun K hK => by
    unfold Oper.wp
    rw [hrun, Oper.upon_skip, hd]
    exact hK _ _ h
theorem wl_call (d : Nat) (hd : o.dst = some d) (hw : Region.wanted o (yielded ops a.tmps) = true) (f : FuncId) (args : Array Value) (hrun : (execOp a.eval o).run Try.prog w = .ok (.enter f args) w)
    {R : Value → World → Prop} (hc : Calls Try.prog f args w fun e w' => ∃ v, e = .returned v ∧ R v w') (h : ∀ v w', R v w' → wpList Try.prog ops Q rest (a.put (some d) v) w') : wpList Try.prog ops Q (o :: rest) a w :=
  wants hw fun K hK => by
    unfold Oper.wp
    rw [hrun, Oper.upon_enter]
    refine hc.mono ?_
    rintro e w' ⟨v, rfl, hR⟩
    rw [hd]
    exact hK _ _ (h v w' hR)
end
section
variable {a : Act} {w : World}
theorem rd_build (t : TypeId) (parts : Array (Nat × Operand)) {o : Oper} (ho : o.op = .build t parts) (vals : List (Nat × Value)) (hv : (parts.map fun (i, x) => (i, a.eval x)).toList = vals) (cells : Array Value) (hf : Try.prog.built t vals = some cells) :
    (execOp a.eval o).run Try.prog w = .ok (.value (.agg cells)) w := by
  subst hv
  have hr := run_build w t (parts.map fun (i, x) => (i, a.eval x)) cells (P := Try.prog) hf
  unfold execOp
  rw [ho]
  simp only [Sem.run_bind, hr, Result.andThen_ok, Sem.run_pure]
theorem rd_store (ty : TypeId) (x y : Operand) {o : Oper} (ho : o.op = .store ty x y) (g : Nat) (cells : Array Value) (hx : a.eval x = .pointer (some ⟨g, 0, none⟩)) (hy : a.eval y = .agg cells) (t : TypeId) (old : Array Value)
    (hg : w.heap[g]? = some (.cells old t (0, 0))) (hi : (Try.prog.info? ty).map (·.size) = some cells.size) (hold : old.size = cells.size) (h1 : cells.all (·.oneCell') = true) :
    (execOp a.eval o).run Try.prog w = .ok .skip (w.setRow g cells) := by
  unfold execOp
  rw [ho]
  simp only [hx, hy, Instr.storeAt, Instr.sureAddr, Sem.run_bind, Sem.run_pure, Result.andThen_ok, run_storeVar_row w g t ty old cells hg hi hold h1]
theorem rd_loadRow (ty : TypeId) (x : Operand) {o : Oper} (ho : o.op = .load ty x) (b off : Nat) (hx : a.eval x = .pointer (some ⟨b, off, none⟩)) (cs : List Value) (d : TypeDesc) (hc : w.rangeAt b off cs) (hu : Try.prog.underlying ty = some d) (hd : d.isRow = true) (hi : (Try.prog.info? ty).map (·.size) = some cs.length) :
    (execOp a.eval o).run Try.prog w = .ok (.value (.agg cs.toArray)) w := by
  unfold execOp
  simp only [ho, hx, Instr.loadAt, Instr.sureAddr, Sem.run_bind, Sem.run_pure, Result.andThen_ok, run_loadVar_mid w b off ty cs d hc hu hd hi]
theorem rd_loadNn {x : Operand} {o : Oper} (ho : o.op = .load 29 x) {b : Nat} (hx : a.eval x = .pointer (some ⟨b, 0, none⟩)) {y : NV} (hc : NBx b w y) : (execOp a.eval o).run Try.prog w = .ok (.value (.agg y.cells.toArray)) w :=
  rd_loadRow 29 x ho b 0 hx y.cells _ hc.all Try.underlying29 rfl (by rw [infoN, NV.len hc.l])
theorem rd_loadRr {x : Operand} {o : Oper} (ho : o.op = .load 26 x) {b off : Nat} (hx : a.eval x = .pointer (some ⟨b, off, none⟩)) {y : RV} (hl : y.d.length = 32) (hc : w.rangeAt b off y.cells) : (execOp a.eval o).run Try.prog w = .ok (.value (.agg y.cells.toArray)) w :=
  rd_loadRow 26 x ho b off hx y.cells _ hc Try.underlying26 rfl (by rw [infoR, RV.len hl])
end
end Go.Proofs.Ytamibjgahcpkcaa
/- Bits of bytes; two new cells. -/
namespace Go.Proofs.Ytamibjgahcpkcaa.Ni
open Go.RowKit
set_option linter.unusedVariables false
theorem and15_all : ∀ x : Fin 256, bits BinOp.and IntKind.u8 (x.val : Int) 15 = (x.val : Int) % 16 := by decide +kernel
theorem and1_all : ∀ x : Fin 256, bits BinOp.and IntKind.u8 (x.val : Int) 1 = (x.val : Int) % 2 := by decide +kernel
theorem and2_all : ∀ x : Fin 256, bits BinOp.and IntKind.u8 (x.val : Int) 2 = if (x.val : Int) % 4 ≥ 2 then 2 else 0 := by decide +kernel
theorem or_all : ∀ x y : Fin 16, bits BinOp.or IntKind.u8 ((x.val : Int) * 16) (y.val : Int) = 16 * (x.val : Int) + (y.val : Int) := by decide +kernel
theorem and15 {x : Int} (h0 : 0 ≤ x) (h1 : x < 256) : bits BinOp.and IntKind.u8 x 15 = x % 16 := by
  have := and15_all ⟨x.toNat, by omega⟩
  rwa [show ((x.toNat : Nat) : Int) = x from by omega] at this
theorem and1 {x : Int} (h0 : 0 ≤ x) (h1 : x < 256) : bits BinOp.and IntKind.u8 x 1 = x % 2 := by
  have := and1_all ⟨x.toNat, by omega⟩
  rwa [show ((x.toNat : Nat) : Int) = x from by omega] at this
theorem and2 {x : Int} (h0 : 0 ≤ x) (h1 : x < 256) : bits BinOp.and IntKind.u8 x 2 = if x % 4 ≥ 2 then 2 else 0 := by
  have := and2_all ⟨x.toNat, by omega⟩
  rwa [show ((x.toNat : Nat) : Int) = x from by omega] at this
theorem or16 {x y : Int} (h0 : 0 ≤ x) (h1 : x ≤ 15) (h2 : 0 ≤ y) (h3 : y ≤ 15) : bits BinOp.or IntKind.u8 (x * 16) y = 16 * x + y := by
  have := or_all ⟨x.toNat, by omega⟩ ⟨y.toNat, by omega⟩
  rwa [show ((x.toNat : Nat) : Int) = x from by omega, show ((y.toNat : Nat) : Int) = y from by omega] at this
theorem ownB_nil (w : World) (base : Nat) : OwnB w base (.slice none 0 0) [] := ⟨rfl, .inl ⟨rfl, rfl⟩⟩
theorem ag_nil (w : World) : Ag w none 0 0 [] := ⟨.inl ⟨rfl, rfl⟩, fun _ => ⟨rfl, rfl⟩, rfl, fun x hx => by cases hx⟩
theorem ag_zero (w : World) (a : Option Addr) : Ag w a 0 0 [] := ⟨.inl ⟨rfl, rfl⟩, fun _ => ⟨rfl, rfl⟩, rfl, fun x hx => by cases hx⟩
theorem in0_one (w : World) (x : Int) : In0 (w.alloc (.cells #[.int .u8 x] 5)) (some ⟨w.heap.size, 0, none⟩) 1 1 [x] :=
  .inr ⟨w.heap.size, 0, rfl, rfl, by omega, Nat.le_refl _, by unfold maxLen; omega, fun j hj => by
    have : j = 0 := by simp at hj; omega
    subst this
    rw [cell_of_row _ _ _ _ _ _ (heap_alloc_new _ _)]
    rfl⟩
theorem in0_two (w : World) (x y : Int) : In0 (w.alloc (.cells #[.int .u8 x, .int .u8 y] 5)) (some ⟨w.heap.size, 0, none⟩) 2 2 [x, y] :=
  .inr ⟨w.heap.size, 0, rfl, rfl, by omega, Nat.le_refl _, by unfold maxLen; omega, fun j hj => by
    have : j = 0 ∨ j = 1 := by simp at hj; omega
    rcases this with rfl | rfl <;> (rw [cell_of_row _ _ _ _ _ _ (heap_alloc_new _ _)]; rfl)⟩
theorem below_go {w0 w w' : World} (h : Below w0.heap.size w0 w) (hb : Below w.heap.size w w') : Below w0.heap.size w0 w' := h.trans (hb.mono h.size)
theorem below_new (w : World) (o : Obj) : Below w.heap.size w (w.alloc o) := (Below.refl _ _).alloc (Nat.le_refl _) _
theorem _root_.Go.Proofs.Ytamibjgahcpkcaa.Ag.drewN {w : World} {a : Option Addr} {len cap : Nat} {bs : List Int} (h : Ag w a len cap bs) : Ag w.drew a len cap bs := ⟨h.i.drew, h.nil, h.l, h.b⟩
end Go.Proofs.Ytamibjgahcpkcaa.Ni

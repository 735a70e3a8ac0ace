/- More steps through a drawn region: a store, a build, loads of whole references, nodes and items. -/
import Derived.Test.YtdkpilgelgjieaaGreatG11
import Derived.Test.YtdkpilgelgjieaaGreatRows
import Derived.WalkKit
import Derived.WalkSpells
import Derived.WalkLawsBesides
import Derived.BigQuiet
import Derived.Deep.QuietTactic
import Derived.Handy
import Derived.Deep.RegionHeld3
set_option linter.unusedVariables false
set_option maxRecDepth 100000
namespace Go.Proofs.YtdkpilgelgjieaaGreat
open Go.RowKit
section
variable {md : Region.Mode} {ops : Array Oper} {Q : Exit → Act → World → Prop} {S : World → Prop} {fuel : Nat} {listed : Array Bool} {a : Act} {w : World}
theorem Zbz (i : Nat) {rs : List Nat} {w' : World} {o : Oper} (ho : ops[i]? = some o) (hd : o.dst = none) (hg : Region.wanted o (yielded ops a.tmps) = true) (hrun : (execOp a.eval o).run Tryz.prog w = .ok .skip w') (hS : S w')
  (h : wpAnyH Tryz.prog md ops Q S fuel (listed.setIfInBounds i true) a w') (hs : AllReadyH Tryz.prog md ops Q S fuel listed a w rs) : AllReadyH Tryz.prog md ops Q S fuel listed a w (i :: rs) :=
 AllReadyH.cons ho (fun K hK => by
  rw [if_pos hg]
  unfold Oper.wp
  rw [hrun, Oper.upon_skip]
  exact hK _ _ hS (fun _ => by rw [hd]; exact h)) hs
end
section
variable {ops : Array Oper} {Q : Exit → Act → World → Prop} {a : Act} {w w' : World} {rest : List Oper} {o : Oper}
theorem Zn2 (d : Nat) (v : Value) (hd : o.dst = some d) (hw : Region.wanted o (yielded ops a.tmps) = true) (hrun : (execOp a.eval o).run Tryz.prog w = .ok (.value v) w') (h : wpList Tryz.prog ops Q rest (a.put (some d) v) w') : wpList Tryz.prog ops Q (o :: rest) a w :=
 Zm2 hw fun K hK => by
  unfold Oper.wp
  rw [hrun, Oper.upon_value, hd]
  exact hK _ _ h
theorem Zal (d : Nat) (v : Value) (hd : o.dst = some d) (hw : Region.wanted o (yielded ops a.tmps) = true) (hrun : (execOp a.eval o).run Tryz.prog w = .ok (.value v) w) (h : wpList Tryz.prog ops Q rest (a.put (some d) v) w) : wpList Tryz.prog ops Q (o :: rest) a w := Zn2 d v hd hw hrun h
theorem Zdy (hd : o.dst = none) (hw : Region.wanted o (yielded ops a.tmps) = true) (hrun : (execOp a.eval o).run Tryz.prog w = .ok .skip w') (h : wpList Tryz.prog ops Q rest a w') : wpList Tryz.prog ops Q (o :: rest) a w :=
 Zm2 hw fun K hK => by
  unfold Oper.wp
  rw [hrun, Oper.upon_skip, hd]
  exact hK _ _ h
theorem Zkg (d : Nat) (hd : o.dst = some d) (hw : Region.wanted o (yielded ops a.tmps) = true) (f : FuncId) (args : Array Value) (hrun : (execOp a.eval o).run Tryz.prog w = .ok (.enter f args) w)
  {R : Value -> World -> Prop} (hc : Calls Tryz.prog f args w fun e w' => ∃ v, e = .returned v /\ R v w') (h : ∀ v w', R v w' -> wpList Tryz.prog ops Q rest (a.put (some d) v) w') : wpList Tryz.prog ops Q (o :: rest) a w :=
 Zm2 hw fun K hK => by
  unfold Oper.wp
  rw [hrun, Oper.upon_enter]
  refine hc.mono ?_
  rintro e w' ⟨v, rfl, hR⟩
  rw [hd]
  exact hK _ _ (h v w' hR)
end
section
variable {a : Act} {w : World}
theorem Zb9 (t : TypeId) (parts : Array (Nat × Operand)) {o : Oper} (ho : o.op = .build t parts) (vals : List (Nat × Value)) (hv : (parts.map fun (i, x) => (i, a.eval x)).toList = vals) (cells : Array Value) (hf : Tryz.prog.built t vals = some cells) :
  (execOp a.eval o).run Tryz.prog w = .ok (.value (.agg cells)) w := by
 subst hv
 have hr := run_build w t (parts.map fun (i, x) => (i, a.eval x)) cells (P := Tryz.prog) hf
 unfold execOp
 rw [ho]
 simp only [Sem.run_bind, hr, Result.andThen_ok, Sem.run_pure]
theorem Zbs (ty : TypeId) (x y : Operand) {o : Oper} (ho : o.op = .store ty x y) (g : Nat) (cells : Array Value) (hx : a.eval x = .pointer (some ⟨g, 0, none⟩)) (hy : a.eval y = .agg cells) (t : TypeId) (old : Array Value)
  (hg : w.heap[g]? = some (.cells old t (0, 0))) (hi : (Tryz.prog.info? ty).map (·.size) = some cells.size) (hold : old.size = cells.size) (h1 : cells.all (·.oneCell') = true) :
  (execOp a.eval o).run Tryz.prog w = .ok .skip (w.setRow g cells) := by
 unfold execOp
 rw [ho]
 simp only [hx, hy, Instr.storeAt, Instr.sureAddr, Sem.run_bind, Sem.run_pure, Result.andThen_ok, run_storeVar_row w g t ty old cells hg hi hold h1]
theorem Zjr (ty : TypeId) (x : Operand) {o : Oper} (ho : o.op = .load ty x) (b off : Nat) (hx : a.eval x = .pointer (some ⟨b, off, none⟩)) (cs : List Value) (d : TypeDesc) (hc : w.rangeAt b off cs) (hu : Tryz.prog.underlying ty = some d) (hd : d.isRow = true) (hi : (Tryz.prog.info? ty).map (·.size) = some cs.length) :
  (execOp a.eval o).run Tryz.prog w = .ok (.value (.agg cs.toArray)) w := by
 unfold execOp
 simp only [ho, hx, Instr.loadAt, Instr.sureAddr, Sem.run_bind, Sem.run_pure, Result.andThen_ok, run_loadVar_mid w b off ty cs d hc hu hd hi]
theorem Zrt {x : Operand} {o : Oper} (ho : o.op = .load 104 x) {b : Nat} (hx : a.eval x = .pointer (some ⟨b, 0, none⟩)) {y : NV} (hc : NBx b w y) : (execOp a.eval o).run Tryz.prog w = .ok (.value (.agg y.cells.toArray)) w :=
 Zjr 104 x ho b 0 hx y.cells _ hc.all Tryz.underlying104 rfl (by rw [Zge, NV.len hc.l])
theorem Zec {x : Operand} {o : Oper} (ho : o.op = .load 60 x) {b off : Nat} (hx : a.eval x = .pointer (some ⟨b, off, none⟩)) {y : RV} (hl : y.d.length = 32) (hc : w.rangeAt b off y.cells) : (execOp a.eval o).run Tryz.prog w = .ok (.value (.agg y.cells.toArray)) w :=
 Zjr 60 x ho b off hx y.cells _ hc Tryz.underlying60 rfl (by rw [Zix, RV.len hl])
end
end Go.Proofs.YtdkpilgelgjieaaGreat
namespace Go.Proofs.YtdkpilgelgjieaaGreat.Di
open Go.RowKit
structure S4 where
 a : Int
 b : Int
 c : Int
 d : Int
def wr (x : Int) : Int := IntKind.u64.wrap x
def rotl (x k : Int) : Int := bits BinOp.or IntKind.u64 (IntKind.u64.wrap (x * 2 ^ k.toNat)) (x / 2 ^ (64 - k).toNat)
def xr (x y : Int) : Int := bits BinOp.xor IntKind.u64 x y
def rnd (s : S4) (x : Int) : S4 :=
 let a := wr (s.a + wr (s.b + x))
 let d := rotl (xr s.d a) 32
 let c := wr (s.c + d)
 let b := rotl (xr s.b c) 24
 let a := wr (a + b)
 let d := rotl (xr d a) 16
 let c := wr (c + d)
 let b := rotl (xr b c) 63
 ⟨b, c, d, a⟩
def xor4 (s m : S4) : S4 := ⟨xr s.a m.a, xr s.b m.b, xr s.c m.c, xr s.d m.d⟩
def kk : Int := 11400714819323198485
def stir (s m : S4) : S4 :=
 let s := rnd s (wr (m.a + wr (1 * kk)))
 let s := rnd s (wr (m.b + wr (2 * kk)))
 let s := rnd s (wr (m.c + wr (3 * kk)))
 let s := rnd s (wr (m.d + wr (4 * kk)))
 let s := rnd s (wr (m.a + wr (5 * kk)))
 let s := rnd s (wr (m.b + wr (6 * kk)))
 let s := rnd s (wr (m.c + wr (7 * kk)))
 rnd s (wr (m.d + wr (8 * kk)))
def mix (s m : S4) : S4 := xor4 (stir (xor4 s m) m) s
theorem b32 : bits BinOp.and IntKind.u64 32 63 = 32 := by decide
theorem b24 : bits BinOp.and IntKind.u64 24 63 = 24 := by decide
theorem b16 : bits BinOp.and IntKind.u64 16 63 = 16 := by decide
theorem b63 : bits BinOp.and IntKind.u64 63 63 = 63 := by decide
set_option maxHeartbeats 400000 in
theorem rotc (x : Int) (w : World) (k : Int) (hk0 : 0 <= k) (hk1 : k < 64) (hkk : bits BinOp.and IntKind.u64 k 63 = k) :
  Calls Tryz.prog 114 #[.int .u64 x, .int .i64 k] w fun e w' => e = .returned (.int .u64 (rotl x k)) /\ w' = w := by
 go_enter Tryz.func114, Tryz.ntmps114
 go_wp2
 go_ret
 exact ⟨rfl, rfl⟩

set_option maxHeartbeats 400000 in
theorem round_any (a b c d x : Int) (w : World) :
  Calls Tryz.prog 105 #[.agg #[.int .u64 a, .int .u64 b, .int .u64 c, .int .u64 d], .int .u64 x] w fun e w' => (∃ a' b' c' d', e = .returned (.agg #[.int .u64 a', .int .u64 b', .int .u64 c', .int .u64 d']) /\ Hid (S4.mk a' b' c' d' = rnd ⟨a, b, c, d⟩ x)) /\ Below w.heap.size w w' := by
 go_enter Tryz.func105, Tryz.ntmps105
 go_wp2_with fail
 go_quiet (fail)
 go_wp2_with (first | (go_at_call 114; refine (rotc _ _ _ (by omega) (by omega) (by first | exact b32 | exact b24 | exact b16 | exact b63)).mono ?_; rintro e w' ⟨rfl, rfl⟩))
 go_returns
 refine ⟨⟨_, _, _, _, rfl, rfl⟩, ?_⟩
 repeat' (first | refine Below.setCell ?_ (by simp <;> omega) _ | refine below_drewN ?_ _ | refine Below.alloc ?_ (by simp <;> omega) _ | exact Below.refl _ _)

set_option maxHeartbeats 400000 in
theorem Zq0 (a b c d x y z u : Int) (w : World) :
  Calls Tryz.prog 87 #[.agg #[.int .u64 a, .int .u64 b, .int .u64 c, .int .u64 d], .agg #[.int .u64 x, .int .u64 y, .int .u64 z, .int .u64 u]] w fun e w' => (∃ a' b' c' d', e = .returned (.agg #[.int .u64 a', .int .u64 b', .int .u64 c', .int .u64 d']) /\ Hid (S4.mk a' b' c' d' = xor4 ⟨a, b, c, d⟩ ⟨x, y, z, u⟩)) /\ Below w.heap.size w w' := by
 have i0 : ∀ (w : World) (x0 x1 x2 x3 : Value), (Instr.index 96 (.agg #[x0, x1, x2, x3]) (.int .i64 0)).run Tryz.prog w = .ok x0 w := fun _ _ _ _ _ => by kernel_rfl
 have i1 : ∀ (w : World) (x0 x1 x2 x3 : Value), (Instr.index 96 (.agg #[x0, x1, x2, x3]) (.int .i64 1)).run Tryz.prog w = .ok x1 w := fun _ _ _ _ _ => by kernel_rfl
 have i2 : ∀ (w : World) (x0 x1 x2 x3 : Value), (Instr.index 96 (.agg #[x0, x1, x2, x3]) (.int .i64 2)).run Tryz.prog w = .ok x2 w := fun _ _ _ _ _ => by kernel_rfl
 have i3 : ∀ (w : World) (x0 x1 x2 x3 : Value), (Instr.index 96 (.agg #[x0, x1, x2, x3]) (.int .i64 3)).run Tryz.prog w = .ok x3 w := fun _ _ _ _ _ => by kernel_rfl
 go_enter Tryz.func87, Tryz.ntmps87
 go_wp2
 go_rounds 5
 go_returns
 refine ⟨⟨_, _, _, _, rfl, rfl⟩, ?_⟩
 repeat' (first | refine Below.setCell ?_ (by simp <;> omega) _ | refine below_drewN ?_ _ | refine Below.alloc ?_ (by simp <;> omega) _ | exact Below.refl _ _)

structure Rows3 (n : Nat) (w0 w : World) (r2 r3 r4 : Array Value) : Prop where
 h2 : w.heap[n]? = some (.cells r2 96)
 h3 : w.heap[n + 1]? = some (.cells r3 96)
 h4 : w.heap[n + 1 + 1]? = some (.cells r4 96)
 bel : Below n w0 w
theorem Hid.mk {p : Prop} (h : p) : Hid p := h
theorem lt_of_get {α : Type} {xs : Array α} {i : Nat} {x : α} (h : xs[i]? = some x) : i < xs.size := (Array.getElem?_eq_some_iff.1 h).1
theorem Rows3.call {n : Nat} {w0 v w1 : World} {r2 r3 r4 : Array Value} (h : Rows3 n w0 v r2 r3 r4) (hb : Below v.heap.size v w1) : Rows3 n w0 w1 r2 r3 r4 := by
 have l := lt_of_get h.h4
 exact ⟨(hb.block _ (by omega)).trans h.h2, (hb.block _ (by omega)).trans h.h3, (hb.block _ (by omega)).trans h.h4, h.bel.trans (hb.mono (by omega))⟩
theorem Zbo {w : World} {g t : Nat} {x0 x1 x2 x3 : Value} (h : w.heap[g]? = some (.cells #[x0, x1, x2, x3] t)) :
  w.cell? ⟨g, 0, none⟩ = some x0 /\ w.cell? ⟨g, 1, none⟩ = some x1 /\ w.cell? ⟨g, 2, none⟩ = some x2 /\ w.cell? ⟨g, 3, none⟩ = some x3 /\ ∀ o, w.frozen? ⟨g, o, none⟩ = false :=
 ⟨by simp [World.cell?, h], by simp [World.cell?, h], by simp [World.cell?, h], by simp [World.cell?, h], fun o => frozen_of_row w g o _ t h⟩
theorem put4 {w : World} {g t : Nat} {x0 x1 x2 x3 : Value} (h : w.heap[g]? = some (.cells #[x0, x1, x2, x3] t)) (a b c d : Value) :
  ((((w.setCell ⟨g, 0, none⟩ a).setCell ⟨g, 1, none⟩ b).setCell ⟨g, 2, none⟩ c).setCell ⟨g, 3, none⟩ d).heap[g]? = some (.cells #[a, b, c, d] t) := by
 have h1 := heap_setCell_same w g 0 _ t a h
 have h2 := heap_setCell_same _ g 1 _ t b h1
 have h3 := heap_setCell_same _ g 2 _ t c h2
 have h4 := heap_setCell_same _ g 3 _ t d h3
 simpa using h4
theorem Zfq {w : World} {g k : Nat} (hk : k ≠ g) (a b c d : Value) :
  ((((w.setCell ⟨g, 0, none⟩ a).setCell ⟨g, 1, none⟩ b).setCell ⟨g, 2, none⟩ c).setCell ⟨g, 3, none⟩ d).heap[k]? = w.heap[k]? := by
 rw [heap_setCell_other _ _ _ _ hk, heap_setCell_other _ _ _ _ hk, heap_setCell_other _ _ _ _ hk, heap_setCell_other _ _ _ _ hk]
theorem Zkb {B : Nat} {w0 w : World} {g : Nat} (h : Below B w0 w) (hg : B <= g) (a b c d : Value) :
  Below B w0 ((((w.setCell ⟨g, 0, none⟩ a).setCell ⟨g, 1, none⟩ b).setCell ⟨g, 2, none⟩ c).setCell ⟨g, 3, none⟩ d) :=
 (((h.setCell hg a).setCell hg b).setCell hg c).setCell hg d
theorem Rows3.put {n : Nat} {w0 w : World} {x0 x1 x2 x3 : Value} {r3 r4 : Array Value} (h : Rows3 n w0 w #[x0, x1, x2, x3] r3 r4) (a b c d : Value) :
  Rows3 n w0 ((((w.setCell ⟨n, 0, none⟩ a).setCell ⟨n, 1, none⟩ b).setCell ⟨n, 2, none⟩ c).setCell ⟨n, 3, none⟩ d) #[a, b, c, d] r3 r4 :=
 ⟨put4 h.h2 a b c d, (Zfq (by omega) a b c d).trans h.h3, (Zfq (by omega) a b c d).trans h.h4, Zkb h.bel (Nat.le_refl _) a b c d⟩
theorem Zlp (w : World) (A B C : Array Value) : Rows3 w.heap.size w (((w.alloc (.cells A 96)).alloc (.cells B 96)).alloc (.cells C 96)) A B C := by
 have s1 : (w.alloc (.cells A 96)).heap.size = w.heap.size + 1 := by simp
 have s2 : ((w.alloc (.cells A 96)).alloc (.cells B 96)).heap.size = w.heap.size + 1 + 1 := by simp
 have h1 := heap_alloc_new w (.cells A 96)
 have h2 := heap_alloc_new (w.alloc (.cells A 96)) (.cells B 96)
 have h3 := heap_alloc_new ((w.alloc (.cells A 96)).alloc (.cells B 96)) (.cells C 96)
 rw [s1] at h2
 rw [s2] at h3
 exact ⟨by rw [Below.heap_alloc _ _ _ (by omega), Below.heap_alloc _ _ _ (by omega)]; exact h1, by rw [Below.heap_alloc _ _ _ (by omega)]; exact h2, h3,
  (((Below.refl _ _).alloc (Nat.le_refl _) _).alloc (by omega) _).alloc (by omega) _⟩
theorem Rows3.drew {n : Nat} {w0 w : World} {r2 r3 r4 : Array Value} (h : Rows3 n w0 w r2 r3 r4) : Rows3 n w0 w.drew r2 r3 r4 := ⟨h.h2, h.h3, h.h4, h.bel.drew⟩
theorem Rows3.alloc {n : Nat} {w0 w : World} {r2 r3 r4 : Array Value} (h : Rows3 n w0 w r2 r3 r4) (o : Obj) : Rows3 n w0 (w.alloc o) r2 r3 r4 := by
 have l := lt_of_get h.h4
 exact ⟨(Below.heap_alloc _ _ _ (by omega)).trans h.h2, (Below.heap_alloc _ _ _ (by omega)).trans h.h3, (Below.heap_alloc _ _ _ (by omega)).trans h.h4, h.bel.alloc (by omega) _⟩
theorem Rows3.size {n : Nat} {w0 w : World} {r2 r3 r4 : Array Value} (h : Rows3 n w0 w r2 r3 r4) : n + 1 + 1 < w.heap.size := lt_of_get h.h4
theorem Rows3.putAt {n : Nat} {w0 w : World} {r2 r3 r4 : Array Value} (h : Rows3 n w0 w r2 r3 r4) {g : Nat} (hg : n + 1 + 1 < g) (a b c d : Value) :
  Rows3 n w0 ((((w.setCell ⟨g, 0, none⟩ a).setCell ⟨g, 1, none⟩ b).setCell ⟨g, 2, none⟩ c).setCell ⟨g, 3, none⟩ d) r2 r3 r4 :=
 ⟨(Zfq (by omega) a b c d).trans h.h2, (Zfq (by omega) a b c d).trans h.h3, (Zfq (by omega) a b c d).trans h.h4, Zkb h.bel (by omega) a b c d⟩
theorem Below.row {W w1 : World} (hb : Below W.heap.size W w1) {g : Nat} {o : Obj} (h : W.heap[g]? = some o) : w1.heap[g]? = some o := (hb.block g (lt_of_get h)).trans h
theorem Zlq (w : World) (A B C D : Obj) : Hid ((((((w.alloc A).alloc B).alloc C).alloc D).heap[w.heap.size + 1 + 1 + 1]?) = some D) := by
 have s3 : (((w.alloc A).alloc B).alloc C).heap.size = w.heap.size + 1 + 1 + 1 := by simp
 have h := heap_alloc_new (((w.alloc A).alloc B).alloc C) D
 rw [s3] at h
 exact h
theorem Zw9 {a b c d x y z u : Int} {s1 s2 s3 s4 s5 s6 s7 s8 : S4}
  (h1 : s1 = rnd ⟨a, b, c, d⟩ (IntKind.u64.wrap (x + 11400714819323198485)))
  (h2 : s2 = rnd s1 (IntKind.u64.wrap (y + IntKind.u64.wrap 22801429638646396970)))
  (h3 : s3 = rnd s2 (IntKind.u64.wrap (z + IntKind.u64.wrap 34202144457969595455)))
  (h4 : s4 = rnd s3 (IntKind.u64.wrap (u + IntKind.u64.wrap 45602859277292793940)))
  (h5 : s5 = rnd s4 (IntKind.u64.wrap (x + IntKind.u64.wrap 57003574096615992425)))
  (h6 : s6 = rnd s5 (IntKind.u64.wrap (y + IntKind.u64.wrap 68404288915939190910)))
  (h7 : s7 = rnd s6 (IntKind.u64.wrap (z + IntKind.u64.wrap 79805003735262389395)))
  (h8 : s8 = rnd s7 (IntKind.u64.wrap (u + IntKind.u64.wrap 91205718554585587880))) : s8 = stir ⟨a, b, c, d⟩ ⟨x, y, z, u⟩ := by
 rw [h8, h7, h6, h5, h4, h3, h2, h1]
 have e1 : wr (1 * kk) = 11400714819323198485 := by unfold wr kk; rw [IntKind.wrap_u64]; rfl
 unfold stir
 rw [e1]
 rfl
set_option maxHeartbeats 4000000 in
theorem Zum (a b c d x y z u : Int) (w : World) :
  Calls Tryz.prog 86 #[.agg #[.int .u64 a, .int .u64 b, .int .u64 c, .int .u64 d], .agg #[.int .u64 x, .int .u64 y, .int .u64 z, .int .u64 u]] w fun e w' => (∃ a' b' c' d', e = .returned (.agg #[.int .u64 a', .int .u64 b', .int .u64 c', .int .u64 d']) /\ Hid (S4.mk a' b' c' d' = stir ⟨a, b, c, d⟩ ⟨x, y, z, u⟩)) /\ Below w.heap.size w w' := by
 have i0 : ∀ (w : World) (x0 x1 x2 x3 : Value), (Instr.index 96 (.agg #[x0, x1, x2, x3]) (.int .i64 0)).run Tryz.prog w = .ok x0 w := fun _ _ _ _ _ => by kernel_rfl
 have i1 : ∀ (w : World) (x0 x1 x2 x3 : Value), (Instr.index 96 (.agg #[x0, x1, x2, x3]) (.int .i64 1)).run Tryz.prog w = .ok x1 w := fun _ _ _ _ _ => by kernel_rfl
 have i2 : ∀ (w : World) (x0 x1 x2 x3 : Value), (Instr.index 96 (.agg #[x0, x1, x2, x3]) (.int .i64 2)).run Tryz.prog w = .ok x2 w := fun _ _ _ _ _ => by kernel_rfl
 have i3 : ∀ (w : World) (x0 x1 x2 x3 : Value), (Instr.index 96 (.agg #[x0, x1, x2, x3]) (.int .i64 3)).run Tryz.prog w = .ok x3 w := fun _ _ _ _ _ => by kernel_rfl
 have R0 := Zlp w #[.int .u64 a, .int .u64 b, .int .u64 c, .int .u64 d] #[.int .u64 x, .int .u64 y, .int .u64 z, .int .u64 u] #[.int .u64 0, .int .u64 0, .int .u64 0, .int .u64 0]
 go_enter Tryz.func86, Tryz.ntmps86
 go_wp2
 go_step3
 go_wp2
 go_step3
 go_wp2
 refine wp_loop_rounds 2 ?_
 rw [rounds_succ]
 go_wp2
 refine wp_loop_rounds 5 ?_
 rw [rounds_succ]
 go_wp2_with fail
 refine (round_any _ _ _ _ _ _).mono ?_
 rintro e w1 ⟨⟨a1, b1, c1, d1, rfl, H1⟩, hb1⟩
 have S1 := Rows3.call R0 hb1
 obtain ⟨p1, q1, r1, s1, f1⟩ := Zbo S1.h2
 clear hb1
 go_wp2_with fail
 have R1 := Rows3.put S1 (.int .u64 a1) (.int .u64 b1) (.int .u64 c1) (.int .u64 d1)
 rw [rounds_succ]
 go_wp2_with fail
 refine (round_any _ _ _ _ _ _).mono ?_
 rintro e w2 ⟨⟨a2, b2, c2, d2, rfl, H2⟩, hb2⟩
 clear p1 q1 r1 s1 f1
 have S2 := Rows3.call R1 hb2
 obtain ⟨p2, q2, r2, s2, f2⟩ := Zbo S2.h2
 clear hb2
 go_wp2_with fail
 have R2 := Rows3.put S2 (.int .u64 a2) (.int .u64 b2) (.int .u64 c2) (.int .u64 d2)
 rw [rounds_succ]
 go_wp2_with fail
 refine (round_any _ _ _ _ _ _).mono ?_
 rintro e w3 ⟨⟨a3, b3, c3, d3, rfl, H3⟩, hb3⟩
 clear p2 q2 r2 s2 f2
 have S3 := Rows3.call R2 hb3
 obtain ⟨p3, q3, r3, s3, f3⟩ := Zbo S3.h2
 clear hb3
 go_wp2_with fail
 have R3 := Rows3.put S3 (.int .u64 a3) (.int .u64 b3) (.int .u64 c3) (.int .u64 d3)
 rw [rounds_succ]
 go_wp2_with fail
 refine (round_any _ _ _ _ _ _).mono ?_
 rintro e w4 ⟨⟨a4, b4, c4, d4, rfl, H4⟩, hb4⟩
 clear p3 q3 r3 s3 f3
 have S4 := Rows3.call R3 hb4
 obtain ⟨p4, q4, r4, s4, f4⟩ := Zbo S4.h2
 clear hb4
 go_wp2_with fail
 have R4 := Rows3.put S4 (.int .u64 a4) (.int .u64 b4) (.int .u64 c4) (.int .u64 d4)
 rw [rounds_succ]
 go_wp2_with fail
 rw [rounds_succ]
 obtain ⟨p0, q0, r0, s0, _⟩ := Zbo R4.h3
 go_wp2_with fail
 refine wp_loop_rounds 5 ?_
 rw [rounds_succ]
 go_wp2_with fail
 refine (round_any _ _ _ _ _ _).mono ?_
 rintro e w5 ⟨⟨a5, b5, c5, d5, rfl, H5⟩, hb5⟩
 clear p4 q4 r4 s4 f4
 clear p0 q0 r0 s0
 have S5 := Rows3.call R4 hb5
 obtain ⟨p5, q5, r5, s5, f5⟩ := Zbo S5.h2
 clear hb5
 go_wp2_with fail
 have R5 := Rows3.put S5 (.int .u64 a5) (.int .u64 b5) (.int .u64 c5) (.int .u64 d5)
 rw [rounds_succ]
 go_wp2_with fail
 refine (round_any _ _ _ _ _ _).mono ?_
 rintro e w6 ⟨⟨a6, b6, c6, d6, rfl, H6⟩, hb6⟩
 clear p5 q5 r5 s5 f5
 have S6 := Rows3.call R5 hb6
 obtain ⟨p6, q6, r6, s6, f6⟩ := Zbo S6.h2
 clear hb6
 go_wp2_with fail
 have R6 := Rows3.put S6 (.int .u64 a6) (.int .u64 b6) (.int .u64 c6) (.int .u64 d6)
 rw [rounds_succ]
 go_wp2_with fail
 refine (round_any _ _ _ _ _ _).mono ?_
 rintro e w7 ⟨⟨a7, b7, c7, d7, rfl, H7⟩, hb7⟩
 clear p6 q6 r6 s6 f6
 have S7 := Rows3.call R6 hb7
 obtain ⟨p7, q7, r7, s7, f7⟩ := Zbo S7.h2
 clear hb7
 go_wp2_with fail
 have R7 := Rows3.put S7 (.int .u64 a7) (.int .u64 b7) (.int .u64 c7) (.int .u64 d7)
 rw [rounds_succ]
 go_wp2_with fail
 refine (round_any _ _ _ _ _ _).mono ?_
 rintro e w8 ⟨⟨a8, b8, c8, d8, rfl, H8⟩, hb8⟩
 clear p7 q7 r7 s7 f7
 have S8 := Rows3.call R7 hb8
 obtain ⟨p8, q8, r8, s8, f8⟩ := Zbo S8.h2
 clear hb8
 obtain ⟨p9, q9, r9, s9, f9⟩ := Zbo S8.h4
 go_wp2_with fail
 rw [Exit.noGoto_ret]
 have T8 := Rows3.put S8 (.int .u64 a8) (.int .u64 b8) (.int .u64 c8) (.int .u64 d8)
 have hrow := put4 T8.h4 (.int .u64 a8) (.int .u64 b8) (.int .u64 c8) (.int .u64 d8)
 refine bodyPost_ret (results_cell_row Tryz.results86 _ _ (w.heap.size + 1 + 1) 96 #[.int .u64 a8, .int .u64 b8, .int .u64 c8, .int .u64 d8] (0, 0) _ rfl hrow Tryz.underlying96 rfl (by kernel_rfl)) rfl ?_
 exact ⟨⟨_, _, _, _, rfl, Zw9 H1.out H2.out H3.out H4.out H5.out H6.out H7.out H8.out⟩, Zkb T8.bel (by omega) _ _ _ _⟩
end Go.Proofs.YtdkpilgelgjieaaGreat.Di
namespace Go.Proofs.YtdkpilgelgjieaaGreat.Di
open Go.RowKit
theorem Zzk {s m s1 s2 s3 : S4} (h1 : s1 = xor4 s m) (h2 : s2 = stir s1 m) (h3 : s3 = xor4 s2 s) : s3 = mix s m := by
 rw [h3, h2, h1]
 rfl
theorem s_of {n : Nat} {w0 v : World} {a b c d x y z u : Value} {r4 : Array Value} (h : Rows3 n w0 v #[a, b, c, d] #[x, y, z, u] r4) :
  (v.cell? ⟨n, 0, none⟩ = some a /\ v.cell? ⟨n, 1, none⟩ = some b /\ v.cell? ⟨n, 2, none⟩ = some c /\ v.cell? ⟨n, 3, none⟩ = some d /\ v.cell? ⟨n + 1, 0, none⟩ = some x /\ v.cell? ⟨n + 1, 1, none⟩ = some y /\ v.cell? ⟨n + 1, 2, none⟩ = some z /\ v.cell? ⟨n + 1, 3, none⟩ = some u) /\ Rows3 n w0 v #[a, b, c, d] #[x, y, z, u] r4 := by
 obtain ⟨p, q, r, s, _⟩ := Zbo h.h2
 obtain ⟨p', q', r', s', _⟩ := Zbo h.h3
 exact ⟨⟨p, q, r, s, p', q', r', s'⟩, h⟩
set_option maxHeartbeats 1000000 in
theorem Zin (a b c d x y z u : Int) (w : World) :
  Calls Tryz.prog 72 #[.agg #[.int .u64 a, .int .u64 b, .int .u64 c, .int .u64 d], .agg #[.int .u64 x, .int .u64 y, .int .u64 z, .int .u64 u]] w fun e w' => (∃ a' b' c' d', e = .returned (.agg #[.int .u64 a', .int .u64 b', .int .u64 c', .int .u64 d']) /\ Hid (S4.mk a' b' c' d' = mix ⟨a, b, c, d⟩ ⟨x, y, z, u⟩)) /\ Below w.heap.size w w' := by
 have R0 := Zlp w #[.int .u64 a, .int .u64 b, .int .u64 c, .int .u64 d] #[.int .u64 x, .int .u64 y, .int .u64 z, .int .u64 u] #[.int .u64 0, .int .u64 0, .int .u64 0, .int .u64 0]
 have A0 := Zlq w (.cells #[.int .u64 a, .int .u64 b, .int .u64 c, .int .u64 d] 96) (.cells #[.int .u64 x, .int .u64 y, .int .u64 z, .int .u64 u] 96) (.cells #[.int .u64 0, .int .u64 0, .int .u64 0, .int .u64 0] 96) (.cells #[.int .u64 0, .int .u64 0, .int .u64 0, .int .u64 0] 96)
 go_enter Tryz.func72, Tryz.ntmps72
 go_wp2_with fail
 go_region_held3 (fun v => (v.cell? ⟨w.heap.size, 0, none⟩ = some (.int .u64 a) /\ v.cell? ⟨w.heap.size, 1, none⟩ = some (.int .u64 b) /\ v.cell? ⟨w.heap.size, 2, none⟩ = some (.int .u64 c) /\ v.cell? ⟨w.heap.size, 3, none⟩ = some (.int .u64 d) /\ v.cell? ⟨w.heap.size + 1, 0, none⟩ = some (.int .u64 x) /\ v.cell? ⟨w.heap.size + 1, 1, none⟩ = some (.int .u64 y) /\ v.cell? ⟨w.heap.size + 1, 2, none⟩ = some (.int .u64 z) /\ v.cell? ⟨w.heap.size + 1, 3, none⟩ = some (.int .u64 u)) /\ Rows3 w.heap.size w v #[.int .u64 a, .int .u64 b, .int .u64 c, .int .u64 d] #[.int .u64 x, .int .u64 y, .int .u64 z, .int .u64 u] #[.int .u64 0, .int .u64 0, .int .u64 0, .int .u64 0])
  ((refine s_of ?_; first | exact R0.drew | (with_reducible assumption) | exact Rows3.alloc (And.right (by assumption)) _ | exact Rows3.alloc (by assumption) _ | exact (R0.alloc _).drew | exact Rows3.putAt (And.right (by assumption)) (by omega) _ _ _ _ | exact Rows3.putAt (by assumption) (by omega) _ _ _ _))
  (first
  | (go_at_call 87; refine (Zq0 _ _ _ _ _ _ _ _ _).mono ?_; rintro e w1 ⟨⟨a1, b1, c1, d1, rfl, H1⟩, hb1⟩; have S1 := Rows3.call (And.right (by assumption)) hb1; have z1 := S1.size; first | (have h5 := Below.row hb1 A0.out; clear hb1) | (clear hb1))
  | (go_at_call 86; refine (Zum _ _ _ _ _ _ _ _ _).mono ?_; rintro e w2 ⟨⟨a2, b2, c2, d2, rfl, H2⟩, hb2⟩; have S2 := Rows3.call (And.right (by assumption)) hb2; have z2 := S2.size; first | (have h6 := Below.row hb2 h5; obtain ⟨p2, q2, r2, s2, f2⟩ := Zbo h6; clear hb2) | (have h6 := Below.row hb2 (heap_alloc_new w1 _); obtain ⟨p2, q2, r2, s2, f2⟩ := Zbo h6; clear hb2) | (clear hb2)))
 all_goals
  go_wp2_with fail
  refine (Zq0 _ _ _ _ _ _ _ _ _).mono ?_
  rintro e w3 ⟨⟨a3, b3, c3, d3, rfl, H3⟩, hb3⟩
  have S3 := Rows3.call (And.right (by assumption)) hb3
  obtain ⟨p3, q3, r3, s3, f3⟩ := Zbo S3.h4
  clear hb3
  go_wp2_with fail
  have hrow := put4 S3.h4 (.int .u64 a3) (.int .u64 b3) (.int .u64 c3) (.int .u64 d3)
  refine bodyPost_ret (results_cell_row Tryz.results72 _ _ (w.heap.size + 1 + 1) 96 #[.int .u64 a3, .int .u64 b3, .int .u64 c3, .int .u64 d3] (0, 0) _ rfl hrow Tryz.underlying96 rfl (by kernel_rfl)) rfl ?_
  exact ⟨⟨_, _, _, _, rfl, Zzk H1.out H2.out H3.out⟩, Zkb S3.bel (by omega) _ _ _ _⟩
end Go.Proofs.YtdkpilgelgjieaaGreat.Di
namespace Go.Proofs.YtdkpilgelgjieaaGreat.Di
open Go.RowKit
def B8 (bs : List Int) : Array Value := (bs.map (Value.int .u8)).toArray
theorem B8_size (bs : List Int) : (B8 bs).size = bs.length := by simp [B8]
theorem B8_get (bs : List Int) (k : Nat) (h : k < bs.length) : (B8 bs)[k]? = some (.int .u8 (bs.getD k 0)) := by simp [B8, h]
theorem Zkp {P : Program} (t e n : Nat) (k : IntKind) (hu : P.underlying t = some (.array n e)) (hs : (P.info? e).map (·.size) = some 1) (ha : P.underlying e = some (.int k)) (cs : Array Value) (i : Int) (v : Value) (h0 : 0 <= i) (hn : i < n) (hv : cs[i.toNat]? = some v) (w : World) :
  (Instr.index t (.agg cs) (.int .i64 i)).run P w = .ok v w := by
 cases hq : P.info? e with
 | none => simp [hq] at hs
 | some y =>
  have hy : y.size = 1 := by simpa [hq] using hs
  simp [Instr.index, asIntOf, run_underlying hu, run_underlying ha, h0, hn, sizeOf, typeInfo, hq, hy, part, isAgg, hv]
def or8 (m b : Int) : Int := wr (m * 256 + b)
def wstep (m : S4) (k : Nat) (b : Int) : S4 :=
 if k < 8 then { m with a := or8 m.a b } else if k < 16 then { m with b := or8 m.b b } else if k < 24 then { m with c := or8 m.c b } else { m with d := or8 m.d b }
def wfold (bs : List Int) : Nat -> S4
 | 0 => ⟨0, 0, 0, 0⟩
 | k + 1 => wstep (wfold bs k) k (bs.getD k 0)
def words (bs : List Int) : S4 := wfold bs 32
def V4 (s : S4) : Array Value := #[.int .u64 s.a, .int .u64 s.b, .int .u64 s.c, .int .u64 s.d]
theorem Zky (m b : Int) (h0 : 0 <= b) (h1 : b < 256) : bits BinOp.or IntKind.u64 (IntKind.u64.wrap (m * 256)) b = or8 m b := by
 have hw : ∀ n : Int, 0 <= n -> n < 2 ^ 64 -> IntKind.u64.wrap n = n := fun n a b => by rw [IntKind.wrap_u64]; omega
 rw [IntKind.wrap_u64]
 have e := bits_join .u64 64 (by decide) hw 8 (m * 256 % 18446744073709551616) b (by omega) (by omega) (by omega) h0 (by omega) (by omega)
 rw [e]
 unfold or8 wr
 rw [IntKind.wrap_u64]
 omega
structure Rows2 (n : Nat) (w0 w : World) (r3 r4 : Array Value) : Prop where
 h3 : w.heap[n + 1]? = some (.cells r3 96)
 h4 : w.heap[n + 1 + 1]? = some (.cells r4 96)
 bel : Below n w0 w
theorem Rows2.put0 {n : Nat} {w0 w : World} {x0 x1 x2 x3 : Value} {r3 : Array Value} (h : Rows2 n w0 w r3 #[x0, x1, x2, x3]) (v : Value) : Rows2 n w0 (w.setCell ⟨n + 1 + 1, 0, none⟩ v) r3 #[v, x1, x2, x3] :=
 ⟨(heap_setCell_other _ _ _ _ (by simp)).trans h.h3, by simpa using heap_setCell_same w (n + 1 + 1) 0 _ 96 v h.h4, h.bel.setCell (by simp; omega) _⟩
theorem Rows2.put1 {n : Nat} {w0 w : World} {x0 x1 x2 x3 : Value} {r3 : Array Value} (h : Rows2 n w0 w r3 #[x0, x1, x2, x3]) (v : Value) : Rows2 n w0 (w.setCell ⟨n + 1 + 1, 1, none⟩ v) r3 #[x0, v, x2, x3] :=
 ⟨(heap_setCell_other _ _ _ _ (by simp)).trans h.h3, by simpa using heap_setCell_same w (n + 1 + 1) 1 _ 96 v h.h4, h.bel.setCell (by simp; omega) _⟩
theorem Rows2.put2 {n : Nat} {w0 w : World} {x0 x1 x2 x3 : Value} {r3 : Array Value} (h : Rows2 n w0 w r3 #[x0, x1, x2, x3]) (v : Value) : Rows2 n w0 (w.setCell ⟨n + 1 + 1, 2, none⟩ v) r3 #[x0, x1, v, x3] :=
 ⟨(heap_setCell_other _ _ _ _ (by simp)).trans h.h3, by simpa using heap_setCell_same w (n + 1 + 1) 2 _ 96 v h.h4, h.bel.setCell (by simp; omega) _⟩
theorem Rows2.put3 {n : Nat} {w0 w : World} {x0 x1 x2 x3 : Value} {r3 : Array Value} (h : Rows2 n w0 w r3 #[x0, x1, x2, x3]) (v : Value) : Rows2 n w0 (w.setCell ⟨n + 1 + 1, 3, none⟩ v) r3 #[x0, x1, x2, v] :=
 ⟨(heap_setCell_other _ _ _ _ (by simp)).trans h.h3, by simpa using heap_setCell_same w (n + 1 + 1) 3 _ 96 v h.h4, h.bel.setCell (by simp; omega) _⟩
theorem Zrl (w : World) (o : Obj) (B C : Array Value) : Rows2 w.heap.size w (((w.alloc o).alloc (.cells B 96)).alloc (.cells C 96)) B C := by
 have s1 : (w.alloc o).heap.size = w.heap.size + 1 := by simp
 have s2 : ((w.alloc o).alloc (.cells B 96)).heap.size = w.heap.size + 1 + 1 := by simp
 have h2 := heap_alloc_new (w.alloc o) (.cells B 96)
 have h3 := heap_alloc_new ((w.alloc o).alloc (.cells B 96)) (.cells C 96)
 rw [s1] at h2
 rw [s2] at h3
 exact ⟨by rw [Below.heap_alloc _ _ _ (by omega)]; exact h2, h3, (((Below.refl _ _).alloc (Nat.le_refl _) _).alloc (by omega) _).alloc (by omega) _⟩
theorem getD_mem (bs : List Int) (k : Nat) (h : k < bs.length) : bs.getD k 0 ∈ bs := by simp [List.getD, List.getElem?_eq_getElem h]
theorem Zpw (bs : List Int) (k : Nat) (m : S4) (b : Int) (h : wfold bs k = m) (hb : bs.getD k 0 = b) : wfold bs (k + 1) = wstep m k b := by rw [<- h, <- hb]; rfl
set_option maxHeartbeats 1000000 in
theorem Zd9 (bs : List Int) (hn : bs.length = 32) (hb : ∀ b ∈ bs, 0 <= b /\ b < 256) (w : World) :
  Calls Tryz.prog 73 #[.agg (B8 bs)] w fun e w' => (∃ a' b' c' d', e = .returned (.agg #[.int .u64 a', .int .u64 b', .int .u64 c', .int .u64 d']) /\ Hid (S4.mk a' b' c' d' = words bs)) /\ Below w.heap.size w w' := by
 have hrow : ((((w.alloc (.cells (B8 bs) 23)).alloc (.cells #[.int .u64 0, .int .u64 0, .int .u64 0, .int .u64 0] 96)).alloc (.cells #[.int .u64 0, .int .u64 0, .int .u64 0, .int .u64 0] 96)).heap[w.heap.size]?) = some (.cells (B8 bs) 23 (0, 0)) := by
  rw [Below.heap_alloc _ _ _ (by simp; omega), Below.heap_alloc _ _ _ (by simp)]; exact heap_alloc_new _ _
 have hin : (Tryz.prog.info? 23).map (·.size) = some (B8 bs).size := by rw [B8_size, hn]; kernel_rfl
 have HR := Hid.mk hrow
 clear hrow
 have HI := Hid.mk hin
 clear hin
 go_enter Tryz.func73, Tryz.ntmps73
 go_wp2_with (first | refine wpList_load_row rfl 23 _ rfl _ rfl 23 _ _ _ HR.out Tryz.underlying23 rfl HI.out ?_)
 go_loopw [7] (fun i v => ∃ k : Nat, k <= 32 /\ i = .int .i64 k /\ Rows2 w.heap.size w v #[.int .u64 0, .int .u64 0, .int .u64 0, .int .u64 0] (V4 (wfold bs k))) (fun i _ => 32 - (intOf i).toNat)
 case atStart =>
  exact ⟨0, by omega, rfl, Zrl w _ _ _⟩
 case round =>
  obtain ⟨k, hk, rfl, R⟩ := hrel
  by_cases hlt : k < 32
  ·obtain ⟨hb0, hb1⟩ : 0 <= bs.getD k 0 /\ bs.getD k 0 < 256 := hb _ (getD_mem bs k (by omega))
   have hix := fun v => Zkp (P := Tryz.prog) 23 5 32 .u8 Tryz.underlying23 (by kernel_rfl) Tryz.underlying5 (B8 bs) (k : Int) _ (by omega) (by omega) (B8_get bs k (by omega)) v
   have HB : Hid (bs.getD k 0 = bs.getD k 0) := rfl
   generalize hbk : bs.getD k 0 = b at hb0 hb1 hix
   generalize hm : wfold bs k = m at R
   obtain ⟨ma, mb, mc, md⟩ := m
   have W1 := Hid.mk (Zpw bs k _ b hm hbk)
   clear hm hbk HB
   have R' : Rows2 w.heap.size w _ _ #[.int .u64 ma, .int .u64 mb, .int .u64 mc, .int .u64 md] := R
   obtain ⟨p, q, r, s, f⟩ := Zbo R'.h4
   have hc : k < 8 \/ (8 <= k /\ k < 16) \/ (16 <= k /\ k < 24) \/ 24 <= k := by omega
   rcases hc with hc | hc | hc | hc
   ·have hq : (k : Int) / 8 = 0 := by omega
    go_wp2
    refine ⟨⟨k + 1, by omega, by go_num, ?_⟩, by simp [intOf]; omega⟩
    rw [W1.out, Zky _ _ hb0 hb1]
    simpa [wstep, hc, V4] using R'.put0 (.int .u64 (or8 ma b))
   ·have hq : (k : Int) / 8 = 1 := by omega
    go_wp2
    refine ⟨⟨k + 1, by omega, by go_num, ?_⟩, by simp [intOf]; omega⟩
    rw [W1.out, Zky _ _ hb0 hb1]
    simpa [wstep, show ¬ k < 8 from by omega, show k < 16 from by omega, V4] using R'.put1 (.int .u64 (or8 mb b))
   ·have hq : (k : Int) / 8 = 2 := by omega
    go_wp2
    refine ⟨⟨k + 1, by omega, by go_num, ?_⟩, by simp [intOf]; omega⟩
    rw [W1.out, Zky _ _ hb0 hb1]
    simpa [wstep, show ¬ k < 8 from by omega, show ¬ k < 16 from by omega, show k < 24 from by omega, V4] using R'.put2 (.int .u64 (or8 mc b))
   ·have hq : (k : Int) / 8 = 3 := by omega
    go_wp2
    refine ⟨⟨k + 1, by omega, by go_num, ?_⟩, by simp [intOf]; omega⟩
    rw [W1.out, Zky _ _ hb0 hb1]
    simpa [wstep, show ¬ k < 8 from by omega, show ¬ k < 16 from by omega, show ¬ k < 24 from by omega, V4] using R'.put3 (.int .u64 (or8 md b))
  ·have hk2 : k = 32 := by omega
   subst hk2
   generalize hm : wfold bs 32 = m at R
   obtain ⟨ma, mb, mc, md⟩ := m
   have W1 := Hid.mk hm
   clear hm
   have R' : Rows2 w.heap.size w _ _ #[.int .u64 ma, .int .u64 mb, .int .u64 mc, .int .u64 md] := R
   obtain ⟨p, q, r, s, f⟩ := Zbo R'.h4
   obtain ⟨p3, q3, r3, s3, f3⟩ := Zbo R'.h3
   go_wp2
   have hrow := put4 R'.h3 (.int .u64 ma) (.int .u64 mb) (.int .u64 mc) (.int .u64 md)
   refine bodyPost_ret (results_cell_row Tryz.results73 _ _ (w.heap.size + 1) 96 #[.int .u64 ma, .int .u64 mb, .int .u64 mc, .int .u64 md] (0, 0) _ rfl hrow Tryz.underlying96 rfl (by kernel_rfl)) rfl ?_
   exact ⟨⟨_, _, _, _, rfl, W1.out.symm⟩, Zkb R'.bel (by omega) _ _ _ _⟩
end Go.Proofs.YtdkpilgelgjieaaGreat.Di
namespace Go.Proofs.YtdkpilgelgjieaaGreat.Di
open Go.RowKit
structure Tri (n : Nat) (w0 w : World) (A B C : Obj) : Prop where
 hA : w.heap[n]? = some A
 hB : w.heap[n + 1]? = some B
 hC : w.heap[n + 1 + 1]? = some C
 bel : Below n w0 w
theorem Zw6 (w : World) (A B C : Obj) : Tri w.heap.size w (((w.alloc A).alloc B).alloc C) A B C := by
 have s1 : (w.alloc A).heap.size = w.heap.size + 1 := by simp
 have s2 : ((w.alloc A).alloc B).heap.size = w.heap.size + 1 + 1 := by simp
 have h1 := heap_alloc_new w A
 have h2 := heap_alloc_new (w.alloc A) B
 have h3 := heap_alloc_new ((w.alloc A).alloc B) C
 rw [s1] at h2
 rw [s2] at h3
 exact ⟨by rw [Below.heap_alloc _ _ _ (by omega), Below.heap_alloc _ _ _ (by omega)]; exact h1, by rw [Below.heap_alloc _ _ _ (by omega)]; exact h2, h3,
  (((Below.refl _ _).alloc (Nat.le_refl _) _).alloc (by omega) _).alloc (by omega) _⟩
theorem Zub (ds : List Int) (k : Nat) (x : Int) : (B8 ds).setIfInBounds k (.int .u8 x) = B8 (ds.set k x) := by
 unfold B8
 simp [List.map_set]
theorem Tri.setC {n : Nat} {w0 w : World} {A B : Obj} {ds : List Int} {t : Nat} (h : Tri n w0 w A B (.cells (B8 ds) t)) (k : Nat) (x : Int) : Tri n w0 (w.setCell ⟨n + 1 + 1, k, none⟩ (.int .u8 x)) A B (.cells (B8 (ds.set k x)) t) :=
 ⟨(heap_setCell_other _ _ _ _ (by simp; omega)).trans h.hA, (heap_setCell_other _ _ _ _ (by simp)).trans h.hB, by rw [heap_setCell_same w (n + 1 + 1) k _ t _ h.hC, Zub], h.bel.setCell (by simp; omega) _⟩
theorem Zn1 {w : World} {g t : Nat} {ds : List Int} (h : w.heap[g]? = some (.cells (B8 ds) t)) (k : Nat) (hk : k < ds.length) : w.cell? ⟨g, k, none⟩ = some (.int .u8 (ds.getD k 0)) := by
 rw [cell_of_row w g k _ _ _ h, B8_get ds k hk]
def sel (s : S4) (k : Nat) : Int := if k < 8 then s.a else if k < 16 then s.b else if k < 24 then s.c else s.d
def bt (x : Int) (k : Nat) : Int := x / 2 ^ (56 - 8 * (k % 8)) % 256
def digk (s : S4) (k : Nat) : List Int := (List.range 32).map (fun i => if i < k then bt (sel s i) i else 0)
def dig (s : S4) : List Int := (List.range 32).map (fun i => bt (sel s i) i)
theorem Zpe (s : S4) : digk s 32 = dig s := by
 unfold digk dig
 refine List.map_congr_left fun i hi => ?_
 rw [if_pos (by simpa using hi)]
theorem Zi2 (s : S4) (k : Nat) : (digk s k).length = 32 := by simp [digk]
theorem Zcu (s : S4) (k : Nat) : (digk s k).set k (bt (sel s k) k) = digk s (k + 1) := by
 apply List.ext_getElem
 ·simp [digk]
 ·intro i h1 h2
  simp [digk, List.getElem_set]
  by_cases e : k = i
  ·subst e; simp
  ·simp [e]
   by_cases e2 : i < k
   ·simp [e2, Nat.lt_succ_of_lt e2]
   ·rw [if_neg e2, if_neg (by omega)]
theorem B8_one (bs : List Int) : (B8 bs).all (·.oneCell') = true := by
 simp [B8, Value.oneCell']
theorem Below.setRow {B : Nat} {w0 w : World} {g : Nat} (h : Below B w0 w) (hg : B <= g) (cs : Array Value) : Below B w0 (w.setRow g cs) :=
 h.trans ⟨rfl, rfl, rfl, by simp, fun k hk => setRow_other w g k cs (by omega)⟩
set_option maxHeartbeats 1000000 in
theorem Zmr (a b c d : Int) (w : World) :
  Calls Tryz.prog 74 #[.agg #[.int .u64 a, .int .u64 b, .int .u64 c, .int .u64 d]] w fun e w' => e = .returned (.agg (B8 (dig ⟨a, b, c, d⟩))) /\ Below w.heap.size w w' := by
 go_enter Tryz.func74, Tryz.ntmps74
 go_wp2_with fail
 go_loopw [5] (fun i v => ∃ k : Nat, k <= 32 /\ i = .int .i64 k /\ Tri w.heap.size w v (.cells #[.int .u64 a, .int .u64 b, .int .u64 c, .int .u64 d] 96) (.cells (B8 (List.replicate 32 0)) 24) (.cells (B8 (digk ⟨a, b, c, d⟩ k)) 24)) (fun i _ => 32 - (intOf i).toNat)
 case atStart =>
  exact ⟨0, by omega, rfl, Zw6 w _ _ _⟩
 case round =>
  obtain ⟨k, hk, rfl, R⟩ := hrel
  by_cases hlt : k < 32
  ·obtain ⟨p, q, r, s, f⟩ := Zbo R.hA
   have hcell := Zn1 R.hC k (by rw [Zi2]; omega)
   have hfr := frozen_of_row _ _ k _ _ R.hC
   have hc : k < 8 \/ (8 <= k /\ k < 16) \/ (16 <= k /\ k < 24) \/ 24 <= k := by omega
   generalize (digk ⟨a, b, c, d⟩ k).getD k 0 = y at hcell
   rcases hc with hc | hc | hc | hc
   ·have hq : (k : Int) / 8 = 0 := by omega
    go_wp2
    refine ⟨⟨k + 1, by omega, by go_num, ?_⟩, by simp [intOf]; omega⟩
    have e : sel ⟨a, b, c, d⟩ k = a := by simp [sel, hc]
    have T := R.setC k (bt (sel ⟨a, b, c, d⟩ k) k)
    rw [Zcu, e] at T
    exact T
   ·have hq : (k : Int) / 8 = 1 := by omega
    go_wp2
    refine ⟨⟨k + 1, by omega, by go_num, ?_⟩, by simp [intOf]; omega⟩
    have e : sel ⟨a, b, c, d⟩ k = b := by simp [sel, show ¬ k < 8 from by omega, show k < 16 from by omega]
    have T := R.setC k (bt (sel ⟨a, b, c, d⟩ k) k)
    rw [Zcu, e] at T
    exact T
   ·have hq : (k : Int) / 8 = 2 := by omega
    go_wp2
    refine ⟨⟨k + 1, by omega, by go_num, ?_⟩, by simp [intOf]; omega⟩
    have e : sel ⟨a, b, c, d⟩ k = c := by simp [sel, show ¬ k < 8 from by omega, show ¬ k < 16 from by omega, show k < 24 from by omega]
    have T := R.setC k (bt (sel ⟨a, b, c, d⟩ k) k)
    rw [Zcu, e] at T
    exact T
   ·have hq : (k : Int) / 8 = 3 := by omega
    go_wp2
    refine ⟨⟨k + 1, by omega, by go_num, ?_⟩, by simp [intOf]; omega⟩
    have e : sel ⟨a, b, c, d⟩ k = d := by simp [sel, show ¬ k < 8 from by omega, show ¬ k < 16 from by omega, show ¬ k < 24 from by omega]
    have T := R.setC k (bt (sel ⟨a, b, c, d⟩ k) k)
    rw [Zcu, e] at T
    exact T
  ·have hk2 : k = 32 := by omega
   subst hk2
   rw [Zpe] at R
   have hin : (Tryz.prog.info? 24).map (·.size) = some (B8 (dig ⟨a, b, c, d⟩)).size := by rw [B8_size]; kernel_rfl
   have HI := Hid.mk hin
   clear hin
   have HC := Hid.mk R.hC
   have HBr := Hid.mk R.hB
   go_wp2_with (first | refine wpList_load_row rfl 24 _ rfl _ rfl 24 _ _ _ HC.out Tryz.underlying24 rfl HI.out ?_ | refine wpList_store_row rfl 24 _ _ rfl _ (B8 (dig ⟨a, b, c, d⟩)) rfl rfl 24 _ HBr.out HI.out (by simp [B8_size, dig]) (B8_one _) ?_)
   refine bodyPost_ret (results_cell_row Tryz.results74 _ _ (w.heap.size + 1) 24 (B8 (dig ⟨a, b, c, d⟩)) (0, 0) _ rfl (setRow_heap _ _ _ _ _ _ HBr.out) Tryz.underlying24 rfl HI.out) rfl ?_
   exact ⟨rfl, Below.setRow R.bel (by omega) _⟩
end Go.Proofs.YtdkpilgelgjieaaGreat.Di

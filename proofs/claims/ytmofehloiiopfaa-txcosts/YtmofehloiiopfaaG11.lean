/- Ranges over functions, yields, walks over maps, for the walk by environments. -/
import Derived.Test.YtmofehloiiopfaaG10
import Derived.RangeFuncNested
import Derived.Maps.RangeRun
import Derived.Deep.WholeRow
import Derived.Test.YtmofehloiiopfaaRows
import Derived.WalkKit
import Derived.WalkSpells
import Derived.WalkLawsBesides
import Derived.BigQuiet
import Derived.Deep.QuietTactic
import Derived.Handy
import Derived.Deep.RegionHeld3
namespace Go.Proofs.Ytmofehloiiopfaa
open Go.RowKit
open Go.ChangeMaps (setBlock)
set_option linter.unusedVariables false
set_option maxRecDepth 100000
section
variable {r : Option Nat} {m : Nat} {P : Program} {ds : List Deferred} {n : Nat} {Q : Exit → Act → World → Prop} {env : Env} {w w' : World} {ops : Array Oper} {l : List Oper} {o : Oper}
end
section
variable {P : Program} {ρ : Operand → Value} {w w' : World} {o : Oper}
end
end Go.Proofs.Ytmofehloiiopfaa
/- What one round, the xor of four words, and the eight rounds of package digest (functions round, xor, stir) answer, for every input; and the plain functions that say it. -/
namespace Go.Proofs.Ytmofehloiiopfaa.Di
set_option maxRecDepth 100000
open Go.RowKit
/-- Four words. -/
structure S4 where
  a : Int
  b : Int
  c : Int
  d : Int
def wr (x : Int) : Int := IntKind.u64.wrap x
def rotl (x k : Int) : Int := bits BinOp.or IntKind.u64 (IntKind.u64.wrap (x * 2 ^ k.toNat)) (x / 2 ^ (64 - k).toNat)
def xr (x y : Int) : Int := bits BinOp.xor IntKind.u64 x y
def rnd (s : S4) (x : Int) : S4 :=
  let a := wr (s.a + wr (s.b + x))
  let d := rotl (xr s.d a) 32
  let c := wr (s.c + d)
  let b := rotl (xr s.b c) 24
  let a := wr (a + b)
  let d := rotl (xr d a) 16
  let c := wr (c + d)
  let b := rotl (xr b c) 63
  ⟨b, c, d, a⟩
def xor4 (s m : S4) : S4 := ⟨xr s.a m.a, xr s.b m.b, xr s.c m.c, xr s.d m.d⟩
def kk : Int := 11400714819323198485
def stir (s m : S4) : S4 :=
  let s := rnd s (wr (m.a + wr (1 * kk)))
  let s := rnd s (wr (m.b + wr (2 * kk)))
  let s := rnd s (wr (m.c + wr (3 * kk)))
  let s := rnd s (wr (m.d + wr (4 * kk)))
  let s := rnd s (wr (m.a + wr (5 * kk)))
  let s := rnd s (wr (m.b + wr (6 * kk)))
  let s := rnd s (wr (m.c + wr (7 * kk)))
  rnd s (wr (m.d + wr (8 * kk)))
def mix (s m : S4) : S4 := xor4 (stir (xor4 s m) m) s
theorem b32 : bits BinOp.and IntKind.u64 32 63 = 32 := by decide
theorem b24 : bits BinOp.and IntKind.u64 24 63 = 24 := by decide
theorem b16 : bits BinOp.and IntKind.u64 16 63 = 16 := by decide
theorem b63 : bits BinOp.and IntKind.u64 63 63 = 63 := by decide
set_option maxHeartbeats 400000 in
theorem rotc (x : Int) (w : World) (k : Int) (hk0 : 0 ≤ k) (hk1 : k < 64) (hkk : bits BinOp.and IntKind.u64 k 63 = k) :
    Calls Try.prog 85 #[.int .u64 x, .int .i64 k] w fun e w' => e = .returned (.int .u64 (rotl x k)) ∧ w' = w := by
  go_enter Try.func85, Try.ntmps85
  go_wp2
  go_ret
  exact ⟨rfl, rfl⟩

set_option maxHeartbeats 400000 in
theorem round_any (a b c d x : Int) (w : World) :
    Calls Try.prog 84 #[.agg #[.int .u64 a, .int .u64 b, .int .u64 c, .int .u64 d], .int .u64 x] w fun e w' => (∃ a' b' c' d', e = .returned (.agg #[.int .u64 a', .int .u64 b', .int .u64 c', .int .u64 d']) ∧ Hid (S4.mk a' b' c' d' = rnd ⟨a, b, c, d⟩ x)) ∧ Below w.heap.size w w' := by
  go_enter Try.func84, Try.ntmps84
  go_wp2_with fail
  go_quiet (fail)
  go_wp2_with (first | (go_at_call 85; refine (rotc _ _ _ (by omega) (by omega) (by first | exact b32 | exact b24 | exact b16 | exact b63)).mono ?_; rintro e w' ⟨rfl, rfl⟩))
  go_returns
  refine ⟨⟨_, _, _, _, rfl, rfl⟩, ?_⟩
  repeat' (first | refine Below.setCell ?_ (by simp <;> omega) _ | refine below_drewN ?_ _ | refine Below.alloc ?_ (by simp <;> omega) _ | exact Below.refl _ _)

set_option maxHeartbeats 400000 in
theorem xor_any (a b c d x y z u : Int) (w : World) :
    Calls Try.prog 82 #[.agg #[.int .u64 a, .int .u64 b, .int .u64 c, .int .u64 d], .agg #[.int .u64 x, .int .u64 y, .int .u64 z, .int .u64 u]] w fun e w' => (∃ a' b' c' d', e = .returned (.agg #[.int .u64 a', .int .u64 b', .int .u64 c', .int .u64 d']) ∧ Hid (S4.mk a' b' c' d' = xor4 ⟨a, b, c, d⟩ ⟨x, y, z, u⟩)) ∧ Below w.heap.size w w' := by
  have i0 : ∀ (w : World) (x0 x1 x2 x3 : Value), (Instr.index 75 (.agg #[x0, x1, x2, x3]) (.int .i64 0)).run Try.prog w = .ok x0 w := fun _ _ _ _ _ => by kernel_rfl
  have i1 : ∀ (w : World) (x0 x1 x2 x3 : Value), (Instr.index 75 (.agg #[x0, x1, x2, x3]) (.int .i64 1)).run Try.prog w = .ok x1 w := fun _ _ _ _ _ => by kernel_rfl
  have i2 : ∀ (w : World) (x0 x1 x2 x3 : Value), (Instr.index 75 (.agg #[x0, x1, x2, x3]) (.int .i64 2)).run Try.prog w = .ok x2 w := fun _ _ _ _ _ => by kernel_rfl
  have i3 : ∀ (w : World) (x0 x1 x2 x3 : Value), (Instr.index 75 (.agg #[x0, x1, x2, x3]) (.int .i64 3)).run Try.prog w = .ok x3 w := fun _ _ _ _ _ => by kernel_rfl
  go_enter Try.func82, Try.ntmps82
  go_wp2
  go_rounds 5
  go_returns
  refine ⟨⟨_, _, _, _, rfl, rfl⟩, ?_⟩
  repeat' (first | refine Below.setCell ?_ (by simp <;> omega) _ | refine below_drewN ?_ _ | refine Below.alloc ?_ (by simp <;> omega) _ | exact Below.refl _ _)

/-- Three new blocks of four words each, from block n on; what was there ahead of them is as it was. -/
structure Rows3 (n : Nat) (w0 w : World) (r2 r3 r4 : Array Value) : Prop where
  h2 : w.heap[n]? = some (.cells r2 75)
  h3 : w.heap[n + 1]? = some (.cells r3 75)
  h4 : w.heap[n + 1 + 1]? = some (.cells r4 75)
  bel : Below n w0 w
theorem Hid.mk {p : Prop} (h : p) : Hid p := h
theorem lt_of_get {α : Type} {xs : Array α} {i : Nat} {x : α} (h : xs[i]? = some x) : i < xs.size := (Array.getElem?_eq_some_iff.1 h).1
theorem Rows3.call {n : Nat} {w0 v w1 : World} {r2 r3 r4 : Array Value} (h : Rows3 n w0 v r2 r3 r4) (hb : Below v.heap.size v w1) : Rows3 n w0 w1 r2 r3 r4 := by
  have l := lt_of_get h.h4
  exact ⟨(hb.block _ (by omega)).trans h.h2, (hb.block _ (by omega)).trans h.h3, (hb.block _ (by omega)).trans h.h4, h.bel.trans (hb.mono (by omega))⟩
theorem cells4 {w : World} {g t : Nat} {x0 x1 x2 x3 : Value} (h : w.heap[g]? = some (.cells #[x0, x1, x2, x3] t)) :
    w.cell? ⟨g, 0, none⟩ = some x0 ∧ w.cell? ⟨g, 1, none⟩ = some x1 ∧ w.cell? ⟨g, 2, none⟩ = some x2 ∧ w.cell? ⟨g, 3, none⟩ = some x3 ∧ ∀ o, w.frozen? ⟨g, o, none⟩ = false :=
  ⟨by simp [World.cell?, h], by simp [World.cell?, h], by simp [World.cell?, h], by simp [World.cell?, h], fun o => frozen_of_row w g o _ t h⟩
theorem put4 {w : World} {g t : Nat} {x0 x1 x2 x3 : Value} (h : w.heap[g]? = some (.cells #[x0, x1, x2, x3] t)) (a b c d : Value) :
    ((((w.setCell ⟨g, 0, none⟩ a).setCell ⟨g, 1, none⟩ b).setCell ⟨g, 2, none⟩ c).setCell ⟨g, 3, none⟩ d).heap[g]? = some (.cells #[a, b, c, d] t) := by
  have h1 := heap_setCell_same w g 0 _ t a h
  have h2 := heap_setCell_same _ g 1 _ t b h1
  have h3 := heap_setCell_same _ g 2 _ t c h2
  have h4 := heap_setCell_same _ g 3 _ t d h3
  simpa using h4
theorem other4 {w : World} {g k : Nat} (hk : k ≠ g) (a b c d : Value) :
    ((((w.setCell ⟨g, 0, none⟩ a).setCell ⟨g, 1, none⟩ b).setCell ⟨g, 2, none⟩ c).setCell ⟨g, 3, none⟩ d).heap[k]? = w.heap[k]? := by
  rw [heap_setCell_other _ _ _ _ hk, heap_setCell_other _ _ _ _ hk, heap_setCell_other _ _ _ _ hk, heap_setCell_other _ _ _ _ hk]
theorem below4 {B : Nat} {w0 w : World} {g : Nat} (h : Below B w0 w) (hg : B ≤ g) (a b c d : Value) :
    Below B w0 ((((w.setCell ⟨g, 0, none⟩ a).setCell ⟨g, 1, none⟩ b).setCell ⟨g, 2, none⟩ c).setCell ⟨g, 3, none⟩ d) :=
  (((h.setCell hg a).setCell hg b).setCell hg c).setCell hg d
theorem Rows3.put {n : Nat} {w0 w : World} {x0 x1 x2 x3 : Value} {r3 r4 : Array Value} (h : Rows3 n w0 w #[x0, x1, x2, x3] r3 r4) (a b c d : Value) :
    Rows3 n w0 ((((w.setCell ⟨n, 0, none⟩ a).setCell ⟨n, 1, none⟩ b).setCell ⟨n, 2, none⟩ c).setCell ⟨n, 3, none⟩ d) #[a, b, c, d] r3 r4 :=
  ⟨put4 h.h2 a b c d, (other4 (by omega) a b c d).trans h.h3, (other4 (by omega) a b c d).trans h.h4, below4 h.bel (Nat.le_refl _) a b c d⟩
theorem rows3_new (w : World) (A B C : Array Value) : Rows3 w.heap.size w (((w.alloc (.cells A 75)).alloc (.cells B 75)).alloc (.cells C 75)) A B C := by
  have s1 : (w.alloc (.cells A 75)).heap.size = w.heap.size + 1 := by simp
  have s2 : ((w.alloc (.cells A 75)).alloc (.cells B 75)).heap.size = w.heap.size + 1 + 1 := by simp
  have h1 := heap_alloc_new w (.cells A 75)
  have h2 := heap_alloc_new (w.alloc (.cells A 75)) (.cells B 75)
  have h3 := heap_alloc_new ((w.alloc (.cells A 75)).alloc (.cells B 75)) (.cells C 75)
  rw [s1] at h2
  rw [s2] at h3
  exact ⟨by rw [Below.heap_alloc _ _ _ (by omega), Below.heap_alloc _ _ _ (by omega)]; exact h1, by rw [Below.heap_alloc _ _ _ (by omega)]; exact h2, h3,
   (((Below.refl _ _).alloc (Nat.le_refl _) _).alloc (by omega) _).alloc (by omega) _⟩
theorem Rows3.drew {n : Nat} {w0 w : World} {r2 r3 r4 : Array Value} (h : Rows3 n w0 w r2 r3 r4) : Rows3 n w0 w.drew r2 r3 r4 := ⟨h.h2, h.h3, h.h4, h.bel.drew⟩
theorem Rows3.alloc {n : Nat} {w0 w : World} {r2 r3 r4 : Array Value} (h : Rows3 n w0 w r2 r3 r4) (o : Obj) : Rows3 n w0 (w.alloc o) r2 r3 r4 := by
  have l := lt_of_get h.h4
  exact ⟨(Below.heap_alloc _ _ _ (by omega)).trans h.h2, (Below.heap_alloc _ _ _ (by omega)).trans h.h3, (Below.heap_alloc _ _ _ (by omega)).trans h.h4, h.bel.alloc (by omega) _⟩
theorem Rows3.size {n : Nat} {w0 w : World} {r2 r3 r4 : Array Value} (h : Rows3 n w0 w r2 r3 r4) : n + 1 + 1 < w.heap.size := lt_of_get h.h4
theorem Rows3.putAt {n : Nat} {w0 w : World} {r2 r3 r4 : Array Value} (h : Rows3 n w0 w r2 r3 r4) {g : Nat} (hg : n + 1 + 1 < g) (a b c d : Value) :
    Rows3 n w0 ((((w.setCell ⟨g, 0, none⟩ a).setCell ⟨g, 1, none⟩ b).setCell ⟨g, 2, none⟩ c).setCell ⟨g, 3, none⟩ d) r2 r3 r4 :=
  ⟨(other4 (by omega) a b c d).trans h.h2, (other4 (by omega) a b c d).trans h.h3, (other4 (by omega) a b c d).trans h.h4, below4 h.bel (by omega) a b c d⟩
theorem Below.row {W w1 : World} (hb : Below W.heap.size W w1) {g : Nat} {o : Obj} (h : W.heap[g]? = some o) : w1.heap[g]? = some o := (hb.block g (lt_of_get h)).trans h
theorem rows3_fourth (w : World) (A B C D : Obj) : Hid ((((((w.alloc A).alloc B).alloc C).alloc D).heap[w.heap.size + 1 + 1 + 1]?) = some D) := by
  have s3 : (((w.alloc A).alloc B).alloc C).heap.size = w.heap.size + 1 + 1 + 1 := by simp
  have h := heap_alloc_new (((w.alloc A).alloc B).alloc C) D
  rw [s3] at h
  exact h
theorem stir_of {a b c d x y z u : Int} {s1 s2 s3 s4 s5 s6 s7 s8 : S4}
    (h1 : s1 = rnd ⟨a, b, c, d⟩ (IntKind.u64.wrap (x + 11400714819323198485)))
    (h2 : s2 = rnd s1 (IntKind.u64.wrap (y + IntKind.u64.wrap 22801429638646396970)))
    (h3 : s3 = rnd s2 (IntKind.u64.wrap (z + IntKind.u64.wrap 34202144457969595455)))
    (h4 : s4 = rnd s3 (IntKind.u64.wrap (u + IntKind.u64.wrap 45602859277292793940)))
    (h5 : s5 = rnd s4 (IntKind.u64.wrap (x + IntKind.u64.wrap 57003574096615992425)))
    (h6 : s6 = rnd s5 (IntKind.u64.wrap (y + IntKind.u64.wrap 68404288915939190910)))
    (h7 : s7 = rnd s6 (IntKind.u64.wrap (z + IntKind.u64.wrap 79805003735262389395)))
    (h8 : s8 = rnd s7 (IntKind.u64.wrap (u + IntKind.u64.wrap 91205718554585587880))) : s8 = stir ⟨a, b, c, d⟩ ⟨x, y, z, u⟩ := by
  rw [h8, h7, h6, h5, h4, h3, h2, h1]
  have e1 : wr (1 * kk) = 11400714819323198485 := by unfold wr kk; rw [IntKind.wrap_u64]; rfl
  unfold stir
  rw [e1]
  rfl
set_option maxHeartbeats 4000000 in
theorem stir_any (a b c d x y z u : Int) (w : World) :
    Calls Try.prog 81 #[.agg #[.int .u64 a, .int .u64 b, .int .u64 c, .int .u64 d], .agg #[.int .u64 x, .int .u64 y, .int .u64 z, .int .u64 u]] w fun e w' => (∃ a' b' c' d', e = .returned (.agg #[.int .u64 a', .int .u64 b', .int .u64 c', .int .u64 d']) ∧ Hid (S4.mk a' b' c' d' = stir ⟨a, b, c, d⟩ ⟨x, y, z, u⟩)) ∧ Below w.heap.size w w' := by
  have i0 : ∀ (w : World) (x0 x1 x2 x3 : Value), (Instr.index 75 (.agg #[x0, x1, x2, x3]) (.int .i64 0)).run Try.prog w = .ok x0 w := fun _ _ _ _ _ => by kernel_rfl
  have i1 : ∀ (w : World) (x0 x1 x2 x3 : Value), (Instr.index 75 (.agg #[x0, x1, x2, x3]) (.int .i64 1)).run Try.prog w = .ok x1 w := fun _ _ _ _ _ => by kernel_rfl
  have i2 : ∀ (w : World) (x0 x1 x2 x3 : Value), (Instr.index 75 (.agg #[x0, x1, x2, x3]) (.int .i64 2)).run Try.prog w = .ok x2 w := fun _ _ _ _ _ => by kernel_rfl
  have i3 : ∀ (w : World) (x0 x1 x2 x3 : Value), (Instr.index 75 (.agg #[x0, x1, x2, x3]) (.int .i64 3)).run Try.prog w = .ok x3 w := fun _ _ _ _ _ => by kernel_rfl
  have R0 := rows3_new w #[.int .u64 a, .int .u64 b, .int .u64 c, .int .u64 d] #[.int .u64 x, .int .u64 y, .int .u64 z, .int .u64 u] #[.int .u64 0, .int .u64 0, .int .u64 0, .int .u64 0]
  go_enter Try.func81, Try.ntmps81
  go_wp2
  go_step3
  go_wp2
  go_step3
  go_wp2
  refine wp_loop_rounds 2 ?_
  rw [rounds_succ]
  go_wp2
  refine wp_loop_rounds 5 ?_
  rw [rounds_succ]
  go_wp2_with fail
  refine (round_any _ _ _ _ _ _).mono ?_
  rintro e w1 ⟨⟨a1, b1, c1, d1, rfl, H1⟩, hb1⟩
  have S1 := Rows3.call R0 hb1
  obtain ⟨p1, q1, r1, s1, f1⟩ := cells4 S1.h2
  clear hb1
  go_wp2_with fail
  have R1 := Rows3.put S1 (.int .u64 a1) (.int .u64 b1) (.int .u64 c1) (.int .u64 d1)
  rw [rounds_succ]
  go_wp2_with fail
  refine (round_any _ _ _ _ _ _).mono ?_
  rintro e w2 ⟨⟨a2, b2, c2, d2, rfl, H2⟩, hb2⟩
  clear p1 q1 r1 s1 f1
  have S2 := Rows3.call R1 hb2
  obtain ⟨p2, q2, r2, s2, f2⟩ := cells4 S2.h2
  clear hb2
  go_wp2_with fail
  have R2 := Rows3.put S2 (.int .u64 a2) (.int .u64 b2) (.int .u64 c2) (.int .u64 d2)
  rw [rounds_succ]
  go_wp2_with fail
  refine (round_any _ _ _ _ _ _).mono ?_
  rintro e w3 ⟨⟨a3, b3, c3, d3, rfl, H3⟩, hb3⟩
  clear p2 q2 r2 s2 f2
  have S3 := Rows3.call R2 hb3
  obtain ⟨p3, q3, r3, s3, f3⟩ := cells4 S3.h2
  clear hb3
  go_wp2_with fail
  have R3 := Rows3.put S3 (.int .u64 a3) (.int .u64 b3) (.int .u64 c3) (.int .u64 d3)
  rw [rounds_succ]
  go_wp2_with fail
  refine (round_any _ _ _ _ _ _).mono ?_
  rintro e w4 ⟨⟨a4, b4, c4, d4, rfl, H4⟩, hb4⟩
  clear p3 q3 r3 s3 f3
  have S4 := Rows3.call R3 hb4
  obtain ⟨p4, q4, r4, s4, f4⟩ := cells4 S4.h2
  clear hb4
  go_wp2_with fail
  have R4 := Rows3.put S4 (.int .u64 a4) (.int .u64 b4) (.int .u64 c4) (.int .u64 d4)
  rw [rounds_succ]
  go_wp2_with fail
  rw [rounds_succ]
  obtain ⟨p0, q0, r0, s0, _⟩ := cells4 R4.h3
  go_wp2_with fail
  refine wp_loop_rounds 5 ?_
  rw [rounds_succ]
  go_wp2_with fail
  refine (round_any _ _ _ _ _ _).mono ?_
  rintro e w5 ⟨⟨a5, b5, c5, d5, rfl, H5⟩, hb5⟩
  clear p4 q4 r4 s4 f4
  clear p0 q0 r0 s0
  have S5 := Rows3.call R4 hb5
  obtain ⟨p5, q5, r5, s5, f5⟩ := cells4 S5.h2
  clear hb5
  go_wp2_with fail
  have R5 := Rows3.put S5 (.int .u64 a5) (.int .u64 b5) (.int .u64 c5) (.int .u64 d5)
  rw [rounds_succ]
  go_wp2_with fail
  refine (round_any _ _ _ _ _ _).mono ?_
  rintro e w6 ⟨⟨a6, b6, c6, d6, rfl, H6⟩, hb6⟩
  clear p5 q5 r5 s5 f5
  have S6 := Rows3.call R5 hb6
  obtain ⟨p6, q6, r6, s6, f6⟩ := cells4 S6.h2
  clear hb6
  go_wp2_with fail
  have R6 := Rows3.put S6 (.int .u64 a6) (.int .u64 b6) (.int .u64 c6) (.int .u64 d6)
  rw [rounds_succ]
  go_wp2_with fail
  refine (round_any _ _ _ _ _ _).mono ?_
  rintro e w7 ⟨⟨a7, b7, c7, d7, rfl, H7⟩, hb7⟩
  clear p6 q6 r6 s6 f6
  have S7 := Rows3.call R6 hb7
  obtain ⟨p7, q7, r7, s7, f7⟩ := cells4 S7.h2
  clear hb7
  go_wp2_with fail
  have R7 := Rows3.put S7 (.int .u64 a7) (.int .u64 b7) (.int .u64 c7) (.int .u64 d7)
  rw [rounds_succ]
  go_wp2_with fail
  refine (round_any _ _ _ _ _ _).mono ?_
  rintro e w8 ⟨⟨a8, b8, c8, d8, rfl, H8⟩, hb8⟩
  clear p7 q7 r7 s7 f7
  have S8 := Rows3.call R7 hb8
  obtain ⟨p8, q8, r8, s8, f8⟩ := cells4 S8.h2
  clear hb8
  obtain ⟨p9, q9, r9, s9, f9⟩ := cells4 S8.h4
  go_wp2_with fail
  rw [Exit.noGoto_ret]
  have T8 := Rows3.put S8 (.int .u64 a8) (.int .u64 b8) (.int .u64 c8) (.int .u64 d8)
  have hrow := put4 T8.h4 (.int .u64 a8) (.int .u64 b8) (.int .u64 c8) (.int .u64 d8)
  refine bodyPost_ret (results_cell_row Try.results81 _ _ (w.heap.size + 1 + 1) 75 #[.int .u64 a8, .int .u64 b8, .int .u64 c8, .int .u64 d8] (0, 0) _ rfl hrow Try.underlying75 rfl (by kernel_rfl)) rfl ?_
  exact ⟨⟨_, _, _, _, rfl, stir_of H1.out H2.out H3.out H4.out H5.out H6.out H7.out H8.out⟩, below4 T8.bel (by omega) _ _ _ _⟩
end Go.Proofs.Ytmofehloiiopfaa.Di
/- What digest.mix answers: the mixing of one piece's four words into the state, for every input. -/
namespace Go.Proofs.Ytmofehloiiopfaa.Di
set_option maxRecDepth 100000
open Go.RowKit
theorem mix_of {s m s1 s2 s3 : S4} (h1 : s1 = xor4 s m) (h2 : s2 = stir s1 m) (h3 : s3 = xor4 s2 s) : s3 = mix s m := by
  rw [h3, h2, h1]
  rfl
theorem s_of {n : Nat} {w0 v : World} {a b c d x y z u : Value} {r4 : Array Value} (h : Rows3 n w0 v #[a, b, c, d] #[x, y, z, u] r4) :
    (v.cell? ⟨n, 0, none⟩ = some a ∧ v.cell? ⟨n, 1, none⟩ = some b ∧ v.cell? ⟨n, 2, none⟩ = some c ∧ v.cell? ⟨n, 3, none⟩ = some d ∧ v.cell? ⟨n + 1, 0, none⟩ = some x ∧ v.cell? ⟨n + 1, 1, none⟩ = some y ∧ v.cell? ⟨n + 1, 2, none⟩ = some z ∧ v.cell? ⟨n + 1, 3, none⟩ = some u) ∧ Rows3 n w0 v #[a, b, c, d] #[x, y, z, u] r4 := by
  obtain ⟨p, q, r, s, _⟩ := cells4 h.h2
  obtain ⟨p', q', r', s', _⟩ := cells4 h.h3
  exact ⟨⟨p, q, r, s, p', q', r', s'⟩, h⟩
set_option maxHeartbeats 1000000 in
theorem mix_any (a b c d x y z u : Int) (w : World) :
    Calls Try.prog 71 #[.agg #[.int .u64 a, .int .u64 b, .int .u64 c, .int .u64 d], .agg #[.int .u64 x, .int .u64 y, .int .u64 z, .int .u64 u]] w fun e w' => (∃ a' b' c' d', e = .returned (.agg #[.int .u64 a', .int .u64 b', .int .u64 c', .int .u64 d']) ∧ Hid (S4.mk a' b' c' d' = mix ⟨a, b, c, d⟩ ⟨x, y, z, u⟩)) ∧ Below w.heap.size w w' := by
  have R0 := rows3_new w #[.int .u64 a, .int .u64 b, .int .u64 c, .int .u64 d] #[.int .u64 x, .int .u64 y, .int .u64 z, .int .u64 u] #[.int .u64 0, .int .u64 0, .int .u64 0, .int .u64 0]
  have A0 := rows3_fourth w (.cells #[.int .u64 a, .int .u64 b, .int .u64 c, .int .u64 d] 75) (.cells #[.int .u64 x, .int .u64 y, .int .u64 z, .int .u64 u] 75) (.cells #[.int .u64 0, .int .u64 0, .int .u64 0, .int .u64 0] 75) (.cells #[.int .u64 0, .int .u64 0, .int .u64 0, .int .u64 0] 75)
  go_enter Try.func71, Try.ntmps71
  go_wp2_with fail
  go_region_held3 (fun v => (v.cell? ⟨w.heap.size, 0, none⟩ = some (.int .u64 a) ∧ v.cell? ⟨w.heap.size, 1, none⟩ = some (.int .u64 b) ∧ v.cell? ⟨w.heap.size, 2, none⟩ = some (.int .u64 c) ∧ v.cell? ⟨w.heap.size, 3, none⟩ = some (.int .u64 d) ∧ v.cell? ⟨w.heap.size + 1, 0, none⟩ = some (.int .u64 x) ∧ v.cell? ⟨w.heap.size + 1, 1, none⟩ = some (.int .u64 y) ∧ v.cell? ⟨w.heap.size + 1, 2, none⟩ = some (.int .u64 z) ∧ v.cell? ⟨w.heap.size + 1, 3, none⟩ = some (.int .u64 u)) ∧ Rows3 w.heap.size w v #[.int .u64 a, .int .u64 b, .int .u64 c, .int .u64 d] #[.int .u64 x, .int .u64 y, .int .u64 z, .int .u64 u] #[.int .u64 0, .int .u64 0, .int .u64 0, .int .u64 0])
    ((refine s_of ?_; first | exact R0.drew | (with_reducible assumption) | exact Rows3.alloc (And.right (by assumption)) _ | exact Rows3.alloc (by assumption) _ | exact (R0.alloc _).drew | exact Rows3.putAt (And.right (by assumption)) (by omega) _ _ _ _ | exact Rows3.putAt (by assumption) (by omega) _ _ _ _))
    (first
    | (go_at_call 82; refine (xor_any _ _ _ _ _ _ _ _ _).mono ?_; rintro e w1 ⟨⟨a1, b1, c1, d1, rfl, H1⟩, hb1⟩; have S1 := Rows3.call (And.right (by assumption)) hb1; have z1 := S1.size; first | (have h5 := Below.row hb1 A0.out; clear hb1) | (clear hb1))
    | (go_at_call 81; refine (stir_any _ _ _ _ _ _ _ _ _).mono ?_; rintro e w2 ⟨⟨a2, b2, c2, d2, rfl, H2⟩, hb2⟩; have S2 := Rows3.call (And.right (by assumption)) hb2; have z2 := S2.size; first | (have h6 := Below.row hb2 h5; obtain ⟨p2, q2, r2, s2, f2⟩ := cells4 h6; clear hb2) | (have h6 := Below.row hb2 (heap_alloc_new w1 _); obtain ⟨p2, q2, r2, s2, f2⟩ := cells4 h6; clear hb2) | (clear hb2)))
  all_goals
    go_wp2_with fail
    refine (xor_any _ _ _ _ _ _ _ _ _).mono ?_
    rintro e w3 ⟨⟨a3, b3, c3, d3, rfl, H3⟩, hb3⟩
    have S3 := Rows3.call (And.right (by assumption)) hb3
    obtain ⟨p3, q3, r3, s3, f3⟩ := cells4 S3.h4
    clear hb3
    go_wp2_with fail
    have hrow := put4 S3.h4 (.int .u64 a3) (.int .u64 b3) (.int .u64 c3) (.int .u64 d3)
    refine bodyPost_ret (results_cell_row Try.results71 _ _ (w.heap.size + 1 + 1) 75 #[.int .u64 a3, .int .u64 b3, .int .u64 c3, .int .u64 d3] (0, 0) _ rfl hrow Try.underlying75 rfl (by kernel_rfl)) rfl ?_
    exact ⟨⟨_, _, _, _, rfl, mix_of H1.out H2.out H3.out⟩, below4 S3.bel (by omega) _ _ _ _⟩
end Go.Proofs.Ytmofehloiiopfaa.Di

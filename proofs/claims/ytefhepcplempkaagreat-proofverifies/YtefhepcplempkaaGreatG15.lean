/- An extension with a value more. -/
import Derived.Test.YtefhepcplempkaaGreatG14
import Derived.Test.YtefhepcplempkaaGreatG01
import Derived.Test.YtefhepcplempkaaGreatRows
import Derived.WalkKit
import Derived.WalkSpells
import Derived.WalkLawsBesides
import Derived.BigQuiet
import Derived.Deep.QuietTactic
import Derived.Handy
import Derived.Deep.RegionHeld3
set_option linter.unusedVariables false
set_option maxRecDepth 100000
namespace Go.Proofs.YtefhepcplempkaaGreat
open Go.RowKit
open Tr
def bra (vs : Nat -> Value) : Array Value := #[vs 0, vs 1, vs 2, vs 3, vs 4, vs 5, vs 6, vs 7, vs 8, vs 9, vs 10, vs 11, vs 12, vs 13, vs 14, vs 15]
def DS (t : Tr) : Prop := ∀ {K : Nat -> Prop} {w : World} {v : Value} {a : Option Addr} {n c : Nat} {q : List Int} {B : Nat}, Ok B t -> B <= 64 -> Nb q -> Tr.get t q ≠ [] -> TA K w t v -> Sk K w a n c q -> (∀ b, w.heap.size <= b -> K b) -> MC "pergola/trie.without" v #[.slice a n c] w (TRs K w (del t q))
end Go.Proofs.YtefhepcplempkaaGreat
namespace Go.Proofs.YtefhepcplempkaaGreat
open Go.RowKit
open Tr
structure Tri (K : Nat -> Prop) (w : World) (g : Nat) (t : Tr) : Prop where
 ex : ∃ v, Rw g w #[v] 76 /\ TA K w t v
 ok : t = no \/ Ok 64 t
theorem Tri.go {K : Nat -> Prop} {w w' : World} {g : Nat} {t : Tr} (h : Tri K w g t) (hb : Below w.heap.size w w') : Tri K w' g t := by
 obtain ⟨⟨v, h1, h2⟩, h3⟩ := h
 exact ⟨⟨v, h1.go hb, h2.go hb⟩, h3⟩
theorem Zhy {K : Nat -> Prop} {w : World} {t : Tr} {v : Value} (h : TA K w t v) : NoInt #[v] := by
 intro j u hj kd z
 cases j with
 | zero => cases hj; exact h.noint kd z
 | succ j => simp at hj
theorem Zvi {w : World} {base : Nat} {a : Option Addr} {n : Nat} {bs : List Int} {K : Nat -> Prop} (h : Ni.Cut w base a n bs) (hK : ∀ b, base <= b -> K b) : Sk K w a n n bs :=
 ⟨h.ag, fun x hx hn => by obtain ⟨g, off, cur, e, hg, _⟩ := h.own hn; rw [e] at hx; cases hx; exact hK _ hg⟩
theorem Zlk {k : List Int} (h : ∀ x ∈ k, 0 <= x /\ x < 256) : Nb (Ni.nib k) := fun i hi => by have := Ni.nib_bd k h i hi; omega
set_option maxHeartbeats 1000000 in
theorem Zwl {w : World} {a : Option Addr} {n c : Nat} (hn : n <= 32) :
  Calls Tryz.prog 49 #[.slice a n c] w fun e w' => ∃ u, e = .returned u /\ (fun u w' => u = .bool true /\ Bl w w') u w' := by
 have hB := Bl.refl w
 refine Zat Tryz.func49 rfl 6 rfl ?_
 show CW _ _ _ _ _ _ _ [(0, .slice a n c)] _
 refine Zac <| Zaa <| rp 2 (.bool false) <| Zad <| Zab <| Zac <| Zaa <| rp 3 (.slice a n c) <| rp 4 (.int .i64 n) <| rv 5 (.bool true) (fun _ => Zaq (v := .bool (decide ((n : Int) <= (32 : Int)))) (by kernel_rfl) (congrArg Value.bool (decide_eq_true (by omega)))) <| rp 2 (.bool true) <| Zad ?_
 refine Zab <| Zao ?_
 exact Zae (.bool true) (fun _ => by kernel_rfl) ⟨_, rfl, rfl, hB⟩
set_option maxHeartbeats 1000000 in
theorem Zrn {w : World} {a : Option Addr} {n c : Nat} (h0 : 0 < n) (hn : n <= 256) :
  Calls Tryz.prog 50 #[.slice a n c] w fun e w' => ∃ u, e = .returned u /\ (fun u w' => u = .bool true /\ Bl w w') u w' := by
 have hB := Bl.refl w
 refine Zat Tryz.func50 rfl 11 rfl ?_
 show CW _ _ _ _ _ _ _ [(0, .slice a n c)] _
 refine Zac <| Zaa <| rp 2 (.bool false) <| Zad <| Zab <| Zac <| Zaa <| rp 3 (.slice a n c) <| rp 4 (.int .i64 n) <| rv 5 (.bool true) (fun _ => Zaq (v := .bool (decide ((n : Int) > (0 : Int)))) (by kernel_rfl) (congrArg Value.bool (decide_eq_true (by omega)))) <| rp 6 (.bool true) <| rp 7 (.slice a n c) ?_
 refine rp 8 (.int .i64 n) <| rv 9 (.bool true) (fun _ => Zaq (v := .bool (decide ((n : Int) <= (256 : Int)))) (by kernel_rfl) (congrArg Value.bool (decide_eq_true (by omega)))) <| rp 10 (.bool true) <| rp 2 (.bool true) <| Zad <| Zab <| Zao ?_
 exact Zae (.bool true) (fun _ => by kernel_rfl) ⟨_, rfl, rfl, hB⟩
set_option maxHeartbeats 1000000 in
theorem Zwd {K : Nat -> Prop} {w : World} :
  Calls Tryz.prog 23 #[] w fun e w' => ∃ u, e = .returned u /\ (fun u w' => (∃ g, u = .pointer (some ⟨g, 0, none⟩) /\ w.heap.size <= g /\ Tri K w' g no) /\ Bl w w') u w' := by
 have hB := Bl.refl w
 refine Zat Tryz.func23 rfl 3 rfl ?_
 show CW _ _ _ _ _ _ _ [] _
 refine Zac <| Zaa <| rp 0 (.pointer none) <| Zad <| Zab <| Zac <| Zaa <| rp 1 (.agg #[.nilIface]) <| Zbk 2 #[.nilIface] 76 (fun _ => by kernel_rfl) (fun _ => by kernel_rfl) ?_
 intro w1 g2 hn3
 replace hB := hB.go hn3.below
 have hr4 : Rw g2 w1 #[.nilIface] 76 := hn3.row
 refine rp 0 (.pointer (some ⟨g2, 0, none⟩)) <| Zad <| Zab <| Zao ?_
 exact Zae (.pointer (some ⟨g2, 0, none⟩)) (fun _ => by kernel_rfl) ⟨_, rfl, ⟨_, rfl, (by rw [hn3.hg]; exact Nat.le_refl _), ⟨⟨_, hr4, rfl⟩, .inl rfl⟩⟩, hB⟩
end Go.Proofs.YtefhepcplempkaaGreat
namespace Go.Proofs.YtefhepcplempkaaGreat.Di
open Go.RowKit
structure S4 where
 a : Int
 b : Int
 c : Int
 d : Int
def wr (x : Int) : Int := IntKind.u64.wrap x
def rotl (x k : Int) : Int := bits BinOp.or IntKind.u64 (IntKind.u64.wrap (x * 2 ^ k.toNat)) (x / 2 ^ (64 - k).toNat)
def xr (x y : Int) : Int := bits BinOp.xor IntKind.u64 x y
def rnd (s : S4) (x : Int) : S4 :=
 let a := wr (s.a + wr (s.b + x))
 let d := rotl (xr s.d a) 32
 let c := wr (s.c + d)
 let b := rotl (xr s.b c) 24
 let a := wr (a + b)
 let d := rotl (xr d a) 16
 let c := wr (c + d)
 let b := rotl (xr b c) 63
 ⟨b, c, d, a⟩
def xor4 (s m : S4) : S4 := ⟨xr s.a m.a, xr s.b m.b, xr s.c m.c, xr s.d m.d⟩
def kk : Int := 11400714819323198485
def stir (s m : S4) : S4 :=
 let s := rnd s (wr (m.a + wr (1 * kk)))
 let s := rnd s (wr (m.b + wr (2 * kk)))
 let s := rnd s (wr (m.c + wr (3 * kk)))
 let s := rnd s (wr (m.d + wr (4 * kk)))
 let s := rnd s (wr (m.a + wr (5 * kk)))
 let s := rnd s (wr (m.b + wr (6 * kk)))
 let s := rnd s (wr (m.c + wr (7 * kk)))
 rnd s (wr (m.d + wr (8 * kk)))
def mix (s m : S4) : S4 := xor4 (stir (xor4 s m) m) s
theorem b32 : bits BinOp.and IntKind.u64 32 63 = 32 := by decide
theorem b24 : bits BinOp.and IntKind.u64 24 63 = 24 := by decide
theorem b16 : bits BinOp.and IntKind.u64 16 63 = 16 := by decide
theorem b63 : bits BinOp.and IntKind.u64 63 63 = 63 := by decide
set_option maxHeartbeats 400000 in
theorem rotc (x : Int) (w : World) (k : Int) (hk0 : 0 <= k) (hk1 : k < 64) (hkk : bits BinOp.and IntKind.u64 k 63 = k) :
  Calls Tryz.prog 152 #[.int .u64 x, .int .i64 k] w fun e w' => e = .returned (.int .u64 (rotl x k)) /\ w' = w := by
 go_enter Tryz.func152, Tryz.ntmps152
 go_wp2
 go_ret
 exact ⟨rfl, rfl⟩

set_option maxHeartbeats 400000 in
theorem round_any (a b c d x : Int) (w : World) :
  Calls Tryz.prog 146 #[.agg #[.int .u64 a, .int .u64 b, .int .u64 c, .int .u64 d], .int .u64 x] w fun e w' => (∃ a' b' c' d', e = .returned (.agg #[.int .u64 a', .int .u64 b', .int .u64 c', .int .u64 d']) /\ Hid (S4.mk a' b' c' d' = rnd ⟨a, b, c, d⟩ x)) /\ Below w.heap.size w w' := by
 go_enter Tryz.func146, Tryz.ntmps146
 go_wp2_with fail
 go_quiet (fail)
 go_wp2_with (first | (go_at_call 152; refine (rotc _ _ _ (by omega) (by omega) (by first | exact b32 | exact b24 | exact b16 | exact b63)).mono ?_; rintro e w' ⟨rfl, rfl⟩))
 go_returns
 refine ⟨⟨_, _, _, _, rfl, rfl⟩, ?_⟩
 repeat' (first | refine Below.setCell ?_ (by simp <;> omega) _ | refine below_drewN ?_ _ | refine Below.alloc ?_ (by simp <;> omega) _ | exact Below.refl _ _)

set_option maxHeartbeats 400000 in
theorem Zpt (a b c d x y z u : Int) (w : World) :
  Calls Tryz.prog 131 #[.agg #[.int .u64 a, .int .u64 b, .int .u64 c, .int .u64 d], .agg #[.int .u64 x, .int .u64 y, .int .u64 z, .int .u64 u]] w fun e w' => (∃ a' b' c' d', e = .returned (.agg #[.int .u64 a', .int .u64 b', .int .u64 c', .int .u64 d']) /\ Hid (S4.mk a' b' c' d' = xor4 ⟨a, b, c, d⟩ ⟨x, y, z, u⟩)) /\ Below w.heap.size w w' := by
 have i0 : ∀ (w : World) (x0 x1 x2 x3 : Value), (Instr.index 112 (.agg #[x0, x1, x2, x3]) (.int .i64 0)).run Tryz.prog w = .ok x0 w := fun _ _ _ _ _ => by kernel_rfl
 have i1 : ∀ (w : World) (x0 x1 x2 x3 : Value), (Instr.index 112 (.agg #[x0, x1, x2, x3]) (.int .i64 1)).run Tryz.prog w = .ok x1 w := fun _ _ _ _ _ => by kernel_rfl
 have i2 : ∀ (w : World) (x0 x1 x2 x3 : Value), (Instr.index 112 (.agg #[x0, x1, x2, x3]) (.int .i64 2)).run Tryz.prog w = .ok x2 w := fun _ _ _ _ _ => by kernel_rfl
 have i3 : ∀ (w : World) (x0 x1 x2 x3 : Value), (Instr.index 112 (.agg #[x0, x1, x2, x3]) (.int .i64 3)).run Tryz.prog w = .ok x3 w := fun _ _ _ _ _ => by kernel_rfl
 go_enter Tryz.func131, Tryz.ntmps131
 go_wp2
 go_rounds 5
 go_returns
 refine ⟨⟨_, _, _, _, rfl, rfl⟩, ?_⟩
 repeat' (first | refine Below.setCell ?_ (by simp <;> omega) _ | refine below_drewN ?_ _ | refine Below.alloc ?_ (by simp <;> omega) _ | exact Below.refl _ _)

structure Rows3 (n : Nat) (w0 w : World) (r2 r3 r4 : Array Value) : Prop where
 h2 : w.heap[n]? = some (.cells r2 112)
 h3 : w.heap[n + 1]? = some (.cells r3 112)
 h4 : w.heap[n + 1 + 1]? = some (.cells r4 112)
 bel : Below n w0 w
theorem Hid.mk {p : Prop} (h : p) : Hid p := h
theorem lt_of_get {α : Type} {xs : Array α} {i : Nat} {x : α} (h : xs[i]? = some x) : i < xs.size := (Array.getElem?_eq_some_iff.1 h).1
theorem Rows3.call {n : Nat} {w0 v w1 : World} {r2 r3 r4 : Array Value} (h : Rows3 n w0 v r2 r3 r4) (hb : Below v.heap.size v w1) : Rows3 n w0 w1 r2 r3 r4 := by
 have l := lt_of_get h.h4
 exact ⟨(hb.block _ (by omega)).trans h.h2, (hb.block _ (by omega)).trans h.h3, (hb.block _ (by omega)).trans h.h4, h.bel.trans (hb.mono (by omega))⟩
theorem Zbj {w : World} {g t : Nat} {x0 x1 x2 x3 : Value} (h : w.heap[g]? = some (.cells #[x0, x1, x2, x3] t)) :
  w.cell? ⟨g, 0, none⟩ = some x0 /\ w.cell? ⟨g, 1, none⟩ = some x1 /\ w.cell? ⟨g, 2, none⟩ = some x2 /\ w.cell? ⟨g, 3, none⟩ = some x3 /\ ∀ o, w.frozen? ⟨g, o, none⟩ = false :=
 ⟨by simp [World.cell?, h], by simp [World.cell?, h], by simp [World.cell?, h], by simp [World.cell?, h], fun o => frozen_of_row w g o _ t h⟩
theorem put4 {w : World} {g t : Nat} {x0 x1 x2 x3 : Value} (h : w.heap[g]? = some (.cells #[x0, x1, x2, x3] t)) (a b c d : Value) :
  ((((w.setCell ⟨g, 0, none⟩ a).setCell ⟨g, 1, none⟩ b).setCell ⟨g, 2, none⟩ c).setCell ⟨g, 3, none⟩ d).heap[g]? = some (.cells #[a, b, c, d] t) := by
 have h1 := heap_setCell_same w g 0 _ t a h
 have h2 := heap_setCell_same _ g 1 _ t b h1
 have h3 := heap_setCell_same _ g 2 _ t c h2
 have h4 := heap_setCell_same _ g 3 _ t d h3
 simpa using h4
theorem Zfj {w : World} {g k : Nat} (hk : k ≠ g) (a b c d : Value) :
  ((((w.setCell ⟨g, 0, none⟩ a).setCell ⟨g, 1, none⟩ b).setCell ⟨g, 2, none⟩ c).setCell ⟨g, 3, none⟩ d).heap[k]? = w.heap[k]? := by
 rw [heap_setCell_other _ _ _ _ hk, heap_setCell_other _ _ _ _ hk, heap_setCell_other _ _ _ _ hk, heap_setCell_other _ _ _ _ hk]
theorem Zjq {B : Nat} {w0 w : World} {g : Nat} (h : Below B w0 w) (hg : B <= g) (a b c d : Value) :
  Below B w0 ((((w.setCell ⟨g, 0, none⟩ a).setCell ⟨g, 1, none⟩ b).setCell ⟨g, 2, none⟩ c).setCell ⟨g, 3, none⟩ d) :=
 (((h.setCell hg a).setCell hg b).setCell hg c).setCell hg d
theorem Rows3.put {n : Nat} {w0 w : World} {x0 x1 x2 x3 : Value} {r3 r4 : Array Value} (h : Rows3 n w0 w #[x0, x1, x2, x3] r3 r4) (a b c d : Value) :
  Rows3 n w0 ((((w.setCell ⟨n, 0, none⟩ a).setCell ⟨n, 1, none⟩ b).setCell ⟨n, 2, none⟩ c).setCell ⟨n, 3, none⟩ d) #[a, b, c, d] r3 r4 :=
 ⟨put4 h.h2 a b c d, (Zfj (by omega) a b c d).trans h.h3, (Zfj (by omega) a b c d).trans h.h4, Zjq h.bel (Nat.le_refl _) a b c d⟩
theorem Zk2 (w : World) (A B C : Array Value) : Rows3 w.heap.size w (((w.alloc (.cells A 112)).alloc (.cells B 112)).alloc (.cells C 112)) A B C := by
 have s1 : (w.alloc (.cells A 112)).heap.size = w.heap.size + 1 := by simp
 have s2 : ((w.alloc (.cells A 112)).alloc (.cells B 112)).heap.size = w.heap.size + 1 + 1 := by simp
 have h1 := heap_alloc_new w (.cells A 112)
 have h2 := heap_alloc_new (w.alloc (.cells A 112)) (.cells B 112)
 have h3 := heap_alloc_new ((w.alloc (.cells A 112)).alloc (.cells B 112)) (.cells C 112)
 rw [s1] at h2
 rw [s2] at h3
 exact ⟨by rw [Below.heap_alloc _ _ _ (by omega), Below.heap_alloc _ _ _ (by omega)]; exact h1, by rw [Below.heap_alloc _ _ _ (by omega)]; exact h2, h3,
  (((Below.refl _ _).alloc (Nat.le_refl _) _).alloc (by omega) _).alloc (by omega) _⟩
theorem Rows3.drew {n : Nat} {w0 w : World} {r2 r3 r4 : Array Value} (h : Rows3 n w0 w r2 r3 r4) : Rows3 n w0 w.drew r2 r3 r4 := ⟨h.h2, h.h3, h.h4, h.bel.drew⟩
theorem Rows3.alloc {n : Nat} {w0 w : World} {r2 r3 r4 : Array Value} (h : Rows3 n w0 w r2 r3 r4) (o : Obj) : Rows3 n w0 (w.alloc o) r2 r3 r4 := by
 have l := lt_of_get h.h4
 exact ⟨(Below.heap_alloc _ _ _ (by omega)).trans h.h2, (Below.heap_alloc _ _ _ (by omega)).trans h.h3, (Below.heap_alloc _ _ _ (by omega)).trans h.h4, h.bel.alloc (by omega) _⟩
theorem Rows3.size {n : Nat} {w0 w : World} {r2 r3 r4 : Array Value} (h : Rows3 n w0 w r2 r3 r4) : n + 1 + 1 < w.heap.size := lt_of_get h.h4
theorem Rows3.putAt {n : Nat} {w0 w : World} {r2 r3 r4 : Array Value} (h : Rows3 n w0 w r2 r3 r4) {g : Nat} (hg : n + 1 + 1 < g) (a b c d : Value) :
  Rows3 n w0 ((((w.setCell ⟨g, 0, none⟩ a).setCell ⟨g, 1, none⟩ b).setCell ⟨g, 2, none⟩ c).setCell ⟨g, 3, none⟩ d) r2 r3 r4 :=
 ⟨(Zfj (by omega) a b c d).trans h.h2, (Zfj (by omega) a b c d).trans h.h3, (Zfj (by omega) a b c d).trans h.h4, Zjq h.bel (by omega) a b c d⟩
theorem Below.row {W w1 : World} (hb : Below W.heap.size W w1) {g : Nat} {o : Obj} (h : W.heap[g]? = some o) : w1.heap[g]? = some o := (hb.block g (lt_of_get h)).trans h
theorem Zk3 (w : World) (A B C D : Obj) : Hid ((((((w.alloc A).alloc B).alloc C).alloc D).heap[w.heap.size + 1 + 1 + 1]?) = some D) := by
 have s3 : (((w.alloc A).alloc B).alloc C).heap.size = w.heap.size + 1 + 1 + 1 := by simp
 have h := heap_alloc_new (((w.alloc A).alloc B).alloc C) D
 rw [s3] at h
 exact h
theorem Zvq {a b c d x y z u : Int} {s1 s2 s3 s4 s5 s6 s7 s8 : S4}
  (h1 : s1 = rnd ⟨a, b, c, d⟩ (IntKind.u64.wrap (x + 11400714819323198485)))
  (h2 : s2 = rnd s1 (IntKind.u64.wrap (y + IntKind.u64.wrap 22801429638646396970)))
  (h3 : s3 = rnd s2 (IntKind.u64.wrap (z + IntKind.u64.wrap 34202144457969595455)))
  (h4 : s4 = rnd s3 (IntKind.u64.wrap (u + IntKind.u64.wrap 45602859277292793940)))
  (h5 : s5 = rnd s4 (IntKind.u64.wrap (x + IntKind.u64.wrap 57003574096615992425)))
  (h6 : s6 = rnd s5 (IntKind.u64.wrap (y + IntKind.u64.wrap 68404288915939190910)))
  (h7 : s7 = rnd s6 (IntKind.u64.wrap (z + IntKind.u64.wrap 79805003735262389395)))
  (h8 : s8 = rnd s7 (IntKind.u64.wrap (u + IntKind.u64.wrap 91205718554585587880))) : s8 = stir ⟨a, b, c, d⟩ ⟨x, y, z, u⟩ := by
 rw [h8, h7, h6, h5, h4, h3, h2, h1]
 have e1 : wr (1 * kk) = 11400714819323198485 := by unfold wr kk; rw [IntKind.wrap_u64]; rfl
 unfold stir
 rw [e1]
 rfl
set_option maxHeartbeats 4000000 in
theorem Zs4 (a b c d x y z u : Int) (w : World) :
  Calls Tryz.prog 130 #[.agg #[.int .u64 a, .int .u64 b, .int .u64 c, .int .u64 d], .agg #[.int .u64 x, .int .u64 y, .int .u64 z, .int .u64 u]] w fun e w' => (∃ a' b' c' d', e = .returned (.agg #[.int .u64 a', .int .u64 b', .int .u64 c', .int .u64 d']) /\ Hid (S4.mk a' b' c' d' = stir ⟨a, b, c, d⟩ ⟨x, y, z, u⟩)) /\ Below w.heap.size w w' := by
 have i0 : ∀ (w : World) (x0 x1 x2 x3 : Value), (Instr.index 112 (.agg #[x0, x1, x2, x3]) (.int .i64 0)).run Tryz.prog w = .ok x0 w := fun _ _ _ _ _ => by kernel_rfl
 have i1 : ∀ (w : World) (x0 x1 x2 x3 : Value), (Instr.index 112 (.agg #[x0, x1, x2, x3]) (.int .i64 1)).run Tryz.prog w = .ok x1 w := fun _ _ _ _ _ => by kernel_rfl
 have i2 : ∀ (w : World) (x0 x1 x2 x3 : Value), (Instr.index 112 (.agg #[x0, x1, x2, x3]) (.int .i64 2)).run Tryz.prog w = .ok x2 w := fun _ _ _ _ _ => by kernel_rfl
 have i3 : ∀ (w : World) (x0 x1 x2 x3 : Value), (Instr.index 112 (.agg #[x0, x1, x2, x3]) (.int .i64 3)).run Tryz.prog w = .ok x3 w := fun _ _ _ _ _ => by kernel_rfl
 have R0 := Zk2 w #[.int .u64 a, .int .u64 b, .int .u64 c, .int .u64 d] #[.int .u64 x, .int .u64 y, .int .u64 z, .int .u64 u] #[.int .u64 0, .int .u64 0, .int .u64 0, .int .u64 0]
 go_enter Tryz.func130, Tryz.ntmps130
 go_wp2
 go_step3
 go_wp2
 go_step3
 go_wp2
 refine wp_loop_rounds 2 ?_
 rw [rounds_succ]
 go_wp2
 refine wp_loop_rounds 5 ?_
 rw [rounds_succ]
 go_wp2_with fail
 refine (round_any _ _ _ _ _ _).mono ?_
 rintro e w1 ⟨⟨a1, b1, c1, d1, rfl, H1⟩, hb1⟩
 have S1 := Rows3.call R0 hb1
 obtain ⟨p1, q1, r1, s1, f1⟩ := Zbj S1.h2
 clear hb1
 go_wp2_with fail
 have R1 := Rows3.put S1 (.int .u64 a1) (.int .u64 b1) (.int .u64 c1) (.int .u64 d1)
 rw [rounds_succ]
 go_wp2_with fail
 refine (round_any _ _ _ _ _ _).mono ?_
 rintro e w2 ⟨⟨a2, b2, c2, d2, rfl, H2⟩, hb2⟩
 clear p1 q1 r1 s1 f1
 have S2 := Rows3.call R1 hb2
 obtain ⟨p2, q2, r2, s2, f2⟩ := Zbj S2.h2
 clear hb2
 go_wp2_with fail
 have R2 := Rows3.put S2 (.int .u64 a2) (.int .u64 b2) (.int .u64 c2) (.int .u64 d2)
 rw [rounds_succ]
 go_wp2_with fail
 refine (round_any _ _ _ _ _ _).mono ?_
 rintro e w3 ⟨⟨a3, b3, c3, d3, rfl, H3⟩, hb3⟩
 clear p2 q2 r2 s2 f2
 have S3 := Rows3.call R2 hb3
 obtain ⟨p3, q3, r3, s3, f3⟩ := Zbj S3.h2
 clear hb3
 go_wp2_with fail
 have R3 := Rows3.put S3 (.int .u64 a3) (.int .u64 b3) (.int .u64 c3) (.int .u64 d3)
 rw [rounds_succ]
 go_wp2_with fail
 refine (round_any _ _ _ _ _ _).mono ?_
 rintro e w4 ⟨⟨a4, b4, c4, d4, rfl, H4⟩, hb4⟩
 clear p3 q3 r3 s3 f3
 have S4 := Rows3.call R3 hb4
 obtain ⟨p4, q4, r4, s4, f4⟩ := Zbj S4.h2
 clear hb4
 go_wp2_with fail
 have R4 := Rows3.put S4 (.int .u64 a4) (.int .u64 b4) (.int .u64 c4) (.int .u64 d4)
 rw [rounds_succ]
 go_wp2_with fail
 rw [rounds_succ]
 obtain ⟨p0, q0, r0, s0, _⟩ := Zbj R4.h3
 go_wp2_with fail
 refine wp_loop_rounds 5 ?_
 rw [rounds_succ]
 go_wp2_with fail
 refine (round_any _ _ _ _ _ _).mono ?_
 rintro e w5 ⟨⟨a5, b5, c5, d5, rfl, H5⟩, hb5⟩
 clear p4 q4 r4 s4 f4
 clear p0 q0 r0 s0
 have S5 := Rows3.call R4 hb5
 obtain ⟨p5, q5, r5, s5, f5⟩ := Zbj S5.h2
 clear hb5
 go_wp2_with fail
 have R5 := Rows3.put S5 (.int .u64 a5) (.int .u64 b5) (.int .u64 c5) (.int .u64 d5)
 rw [rounds_succ]
 go_wp2_with fail
 refine (round_any _ _ _ _ _ _).mono ?_
 rintro e w6 ⟨⟨a6, b6, c6, d6, rfl, H6⟩, hb6⟩
 clear p5 q5 r5 s5 f5
 have S6 := Rows3.call R5 hb6
 obtain ⟨p6, q6, r6, s6, f6⟩ := Zbj S6.h2
 clear hb6
 go_wp2_with fail
 have R6 := Rows3.put S6 (.int .u64 a6) (.int .u64 b6) (.int .u64 c6) (.int .u64 d6)
 rw [rounds_succ]
 go_wp2_with fail
 refine (round_any _ _ _ _ _ _).mono ?_
 rintro e w7 ⟨⟨a7, b7, c7, d7, rfl, H7⟩, hb7⟩
 clear p6 q6 r6 s6 f6
 have S7 := Rows3.call R6 hb7
 obtain ⟨p7, q7, r7, s7, f7⟩ := Zbj S7.h2
 clear hb7
 go_wp2_with fail
 have R7 := Rows3.put S7 (.int .u64 a7) (.int .u64 b7) (.int .u64 c7) (.int .u64 d7)
 rw [rounds_succ]
 go_wp2_with fail
 refine (round_any _ _ _ _ _ _).mono ?_
 rintro e w8 ⟨⟨a8, b8, c8, d8, rfl, H8⟩, hb8⟩
 clear p7 q7 r7 s7 f7
 have S8 := Rows3.call R7 hb8
 obtain ⟨p8, q8, r8, s8, f8⟩ := Zbj S8.h2
 clear hb8
 obtain ⟨p9, q9, r9, s9, f9⟩ := Zbj S8.h4
 go_wp2_with fail
 rw [Exit.noGoto_ret]
 have T8 := Rows3.put S8 (.int .u64 a8) (.int .u64 b8) (.int .u64 c8) (.int .u64 d8)
 have hrow := put4 T8.h4 (.int .u64 a8) (.int .u64 b8) (.int .u64 c8) (.int .u64 d8)
 refine bodyPost_ret (results_cell_row Tryz.results130 _ _ (w.heap.size + 1 + 1) 112 #[.int .u64 a8, .int .u64 b8, .int .u64 c8, .int .u64 d8] (0, 0) _ rfl hrow Tryz.underlying112 rfl (by kernel_rfl)) rfl ?_
 exact ⟨⟨_, _, _, _, rfl, Zvq H1.out H2.out H3.out H4.out H5.out H6.out H7.out H8.out⟩, Zjq T8.bel (by omega) _ _ _ _⟩
end Go.Proofs.YtefhepcplempkaaGreat.Di

/- Slices of bytes: compared, their beginnings, copied, joined. -/
import Derived.Test.YtefhepcplempkaaGreatG02
import Derived.Test.YtefhepcplempkaaGreatG00
set_option linter.unusedVariables false
set_option maxRecDepth 100000
namespace Go.Proofs.YtefhepcplempkaaGreat
open Go.RowKit
theorem Sk.cutFrom {K : Nat -> Prop} {w : World} {a : Option Addr} {n c : Nat} {bs : List Int} (h : Sk K w a n c bs) (f : Nat) (hf : f <= n) :
  ∃ a' n' c', (∀ (v : World) (ρ : Operand -> Value) (o : Oper) (x y : Operand) (i : Int), o.op = .slice 23 x (some y) none none -> ρ x = .slice a n c -> ρ y = .int .i64 i -> i = f -> (execOp ρ o).run Tryz.prog v = .ok (.value (.slice a' n' c')) v) /\ Sk K w a' n' c' (bs.drop f) :=
 ⟨_, _, _, h.run_from f hf, h.from f hf⟩
theorem Sk.cutTo {K : Nat -> Prop} {w : World} {a : Option Addr} {n c : Nat} {bs : List Int} (h : Sk K w a n c bs) (f : Nat) (hf : f <= n) :
  ∃ a' n' c', (∀ (v : World) (ρ : Operand -> Value) (o : Oper) (x y : Operand) (i : Int), o.op = .slice 23 x none (some y) none -> ρ x = .slice a n c -> ρ y = .int .i64 i -> i = f -> (execOp ρ o).run Tryz.prog v = .ok (.value (.slice a' n' c')) v) /\ Sk K w a' n' c' (bs.take f) :=
 ⟨_, _, _, h.run_upto f hf, h.upto f hf⟩
def Rw (g : Nat) (w : World) (cells : Array Value) (T : TypeId) : Prop := w.heap[g]? = some (.cells cells T (0, 0))
theorem Rw.go {g : Nat} {w w' : World} {cells : Array Value} {T : TypeId} (h : Rw g w cells T) (hb : Below w.heap.size w w') : Rw g w' cells T := Below.row hb h
theorem Rw.drew {g : Nat} {w : World} {cells : Array Value} {T : TypeId} (h : Rw g w cells T) : Rw g w.drew cells T := h
def Bl (w0 w : World) : Prop := Below w0.heap.size w0 w
theorem Bl.refl (w : World) : Bl w w := Below.refl _ _
theorem Bl.go {w0 w w' : World} (h : Bl w0 w) (hb : Below w.heap.size w w') : Bl w0 w' := h.trans (hb.mono h.size)
theorem Bl.drew {w0 w : World} (h : Bl w0 w) : Bl w0 w.drew := h.go (Below.refl _ _).drew
theorem Bl.size {w0 w : World} (h : Bl w0 w) : w0.heap.size <= w.heap.size := Below.size h
section
variable {r : Option Nat} {m : Nat} {P : Program} {ds : List Deferred} {n : Nat} {Q : Exit → Act → World → Prop} {env : Env} {w : World} {ops : Array Oper} {l : List Oper} {o : Oper} {S : World → Prop} {fuel : Nat} {listed : Array Bool} {rs : List Nat}
theorem Zbi (d : Nat) (cells : Array Value) (T : TypeId) (k : Nat) (hc : ∀ fb, chk n ops env fb o d = true) (hr : ∀ fb, (execOp (ev env fb) o).run P w = .ok (.value (.slice (some ⟨w.heap.size, 0, none⟩) k k)) (w.alloc (.cells cells T)))
  (h : ∀ w' g, New w w' g cells T -> RW r m P ds n Q ops l ((d, .slice (some ⟨g, 0, none⟩) k k) :: env) w') : RW r m P ds n Q ops (o :: l) env w := rw_v d _ hc hr (h _ _ ⟨rfl, rfl⟩)
theorem Zbz (i d : Nat) (cells : Array Value) (T : TypeId) (k : Nat) (ho : ops[i]? = some o) (hc : ∀ fb, chk n ops env fb o d = true) (hr : ∀ fb, (execOp (ev env fb) o).run P w = .ok (.value (.slice (some ⟨w.heap.size, 0, none⟩) k k)) (w.alloc (.cells cells T))) (hS : ∀ w' g, New w w' g cells T -> S w')
  (h : ∀ w' g, New w w' g cells T -> DW P ds n Q ops S fuel (listed.setIfInBounds i true) ((d, .slice (some ⟨g, 0, none⟩) k k) :: env) w') (hs : AR P ds n Q ops S fuel listed env w rs) : AR P ds n Q ops S fuel listed env w (i :: rs) :=
 ar_v i d _ ho hc hr (hS _ _ ⟨rfl, rfl⟩) (h _ _ ⟨rfl, rfl⟩) hs
end
theorem Zqp {K : Nat -> Prop} {w w' : World} {g : Nat} {x : Int} (hx : 0 <= x /\ x < 256) (h : New w w' g #[.int .u8 x] 5) (hK : ∀ b, w.heap.size <= b -> K b) : Sk K w' (some ⟨g, 0, none⟩) 1 1 [x] := by
 refine ⟨⟨.inr ⟨g, 0, rfl, rfl, by omega, by omega, by unfold maxLen; omega, fun j hj => ?_⟩, (fun e => by cases e), rfl, fun y hy => by rw [List.mem_singleton.1 hy]; exact hx⟩, fun y hy _ => ?_⟩
 ·have : j = 0 := by simpa using hj
  subst this
  rw [cell_of_row _ _ _ _ _ _ h.row]; rfl
 ·cases hy
  exact hK _ (by rw [h.hg]; exact Nat.le_refl _)
set_option maxHeartbeats 1000000 in
theorem Ze7 {K K' : Nat -> Prop} {w : World} {a a' : Option Addr} {n c n' c' : Nat} {p q : List Int} (h1 : Sk K w a n c p) (h2 : Sk K' w a' n' c' q) :
  Calls Tryz.prog 48 #[.slice a n c, .slice a' n' c'] w fun e w' => ∃ u, e = .returned u /\ u = .bool (decide (p = q)) /\ Bl w w' := by
 have hB := Bl.refl w
 refine Zaj Tryz.func48 rfl 10 rfl ?_
 show CW _ _ _ _ _ _ _ [(0, .slice a n c), (1, .slice a' n' c')] _
 refine Zac <| Zaa <| rp 4 (.bool false) <| Zad <| Zab <| Zac <| Zaa <| rp 5 (.slice a n c) <| rv 6 (.string (strOfNums p)) (fun _ => h1.run_str _ _ _ rfl (by kernel_rfl)) <| rp 7 (.slice a' n' c') <| rv 8 (.string (strOfNums q)) (fun _ => h2.run_str _ _ _ rfl (by kernel_rfl)) <| rv 9 (.bool (decide (p = q))) (fun _ => Zqs 9 _ _ _ _ _ rfl (by kernel_rfl) (by kernel_rfl) (Zlr h1.ag.b h2.ag.b)) ?_
 refine rp 4 (.bool (decide (p = q))) <| Zad <| Zab <| Zap ?_
 exact Zae (.bool (decide (p = q))) (fun _ => by kernel_rfl) ⟨_, rfl, rfl, hB⟩
set_option maxHeartbeats 1000000 in
theorem Zpc {K : Nat -> Prop} {w : World} {p : List Int} (h1 : Sk K w none 0 0 p) :
  Calls Tryz.prog 52 #[.slice none 0 0] w fun e w' => ∃ u, e = .returned u /\ ∃ a2 n2 c2, u = .slice a2 n2 c2 /\ Sk (fun b => w.heap.size <= b) w' a2 n2 c2 p /\ Bl w w' := by
 have hB := Bl.refl w
 refine Zaj Tryz.func52 rfl 8 rfl ?_
 show CW _ _ _ _ _ _ _ [(0, .slice none 0 0)] _
 refine Zac <| Zaa <| rp 2 (.slice none 0 0) <| Zad <| Zab <| Zac <| Zac <| Zaa <| rp 3 (.slice none 0 0) <| rp 4 (.bool true) <| Zad <| Zab ?_
 refine Zak (fun _ => by kernel_rfl) <| Zac <| Zaa <| rp 2 (.slice none 0 0) <| Zad <| Zab <| Zap <| Zaq ?_
 exact Zae (.slice none 0 0) (fun _ => by kernel_rfl) ⟨_, rfl, none, 0, 0, rfl, by have e : p = [] := List.eq_nil_of_length_eq_zero h1.len; subst e; exact Sk.nil _ _, hB⟩
set_option maxHeartbeats 1000000 in
theorem Zpb {K : Nat -> Prop} {w : World} {ad : Addr} {n c : Nat} {p : List Int} (h1 : Sk K w (some ad) n c p) (hn : n <= 1000000) :
  Calls Tryz.prog 52 #[.slice (some ad) n c] w fun e w' => ∃ u, e = .returned u /\ ∃ a2 n2 c2, u = .slice a2 n2 c2 /\ Sk (fun b => w.heap.size <= b) w' a2 n2 c2 p /\ Bl w w' := by
 have hB := Bl.refl w
 refine Zaj Tryz.func52 rfl 8 rfl ?_
 show CW _ _ _ _ _ _ _ [(0, .slice (some ad) n c)] _
 refine Zac <| Zaa <| rp 2 (.slice none 0 0) <| Zad <| Zab <| Zac <| Zac <| Zaa <| rp 3 (.slice (some ad) n c) <| rp 4 (.bool false) <| Zad <| Zab ?_
 refine Zai (fun _ => by kernel_rfl) <| Zan <| Zab <| Zac <| Zaa <| Zbi 5 #[] 5 0 (fun _ => by kernel_rfl) (fun _ => by kernel_rfl) ?_
 intro w1 g2 hn3
 have hzhn3 := hB.size
 replace h1 := h1.go hn3.below
 replace hB := hB.go hn3.below
 have hO : OwnB w1 g2 (.slice (some ⟨g2, 0, none⟩) 0 0) [] := by rw [hn3.hw, hn3.hg]; exact OwnB.new _
 have hsz := hn3.size
 have hgs := hn3.hg
 refine rp 6 (.slice (some ad) n c) ?_
 obtain ⟨v1, w9, hr9, ho9, hb9⟩ := Zen hO h1.ag (by simp; omega) (by omega)
 refine rw_v 7 v1 (fun _ => by kernel_rfl) (fun _ => Zg8 hr9 _ _ rfl (by kernel_rfl) (by kernel_rfl)) ?_
 obtain ⟨a9, c9, rfl, hs9⟩ := ho9.sk (K := fun b => w.heap.size <= b) (by simpa using h1.ag.b) (fun b hb => by omega)
 refine rp 2 (.slice a9 ([] ++ p).length c9) <| Zad <| Zab <| Zap ?_
 exact Zae (.slice a9 ([] ++ p).length c9) (fun _ => by kernel_rfl) ⟨_, rfl, _, _, _, rfl, hs9, hB.trans (hb9.mono (by omega))⟩
theorem Zdy {K : Nat -> Prop} {w : World} {a : Option Addr} {n c : Nat} {p : List Int} (h1 : Sk K w a n c p) (hn : n <= 1000000) :
  Calls Tryz.prog 52 #[.slice a n c] w fun e w' => ∃ u, e = .returned u /\ ∃ a2 n2 c2, u = .slice a2 n2 c2 /\ Sk (fun b => w.heap.size <= b) w' a2 n2 c2 p /\ Bl w w' := by
 cases a with
 | none => obtain ⟨rfl, rfl⟩ := h1.ag.nil rfl; exact Zpc h1
 | some ad => exact Zpb h1 hn
theorem Zec {w w' : World} {v u r : Value} {t1 t2 : TypeId} {ρ : Operand -> Value} {o : Oper} (hr : ∀ ty, (Builtin.append_ #[t1, t2] ty #[v, u]).run Tryz.prog w = .ok r w') (x y : Operand) (ho : o.op = .call { callee := .builtin .append, args := #[x, y], argTypes := #[t1, t2] }) (hx : ρ x = v) (hy : ρ y = u) : (execOp ρ o).run Tryz.prog w = .ok (.value r) w' := by
 unfold execOp
 simp only [ho, resolve, invoke, builtin, Sem.run_bind, Sem.run_pure, Result.andThen_ok, List.map_toArray, List.map_cons, List.map_nil, hx, hy, hr]
theorem Zh6 (n : Nat) : (Builtin.zeroCells #[Value.int .u8 0] n).size = n := by simp [Builtin.zeroCells]
theorem Zo2 (w : World) (k : Nat) (h0 : 0 < k) (hk : k <= 1000000) : ∃ cap w9, (∀ ty, (Builtin.append_ #[23, 3] ty #[.slice none 0 0, .int .i64 ((k : Nat) : Int)]).run Tryz.prog w = .ok (.slice (some ⟨w.heap.size, 0, none⟩) k cap) w9) /\ OwnB w9 w.heap.size (.slice (some ⟨w.heap.size, 0, none⟩) 0 cap) [] /\ Bl w w9 := by
 obtain ⟨i, hi, hz, hsz, hby⟩ := info5
 have hr := fun ty => Lib.run_append_nil_zeros (P := Tryz.prog) w 23 3 ty 5 i (.int .u8 0) .i64 .i64 Tryz.underlying23 Tryz.underlying3 hi hz k h0 (by omega) (by omega) (by rw [hby]; omega)
 refine ⟨_, _, hr, ⟨rfl, .inr ⟨w.heap.size, _, _, rfl, Nat.le_refl _, heap_alloc_new _ _, Nat.zero_le _, grownCap_le_maxLen _ _ _ _ (by unfold maxLen; omega), ?_, rfl⟩⟩, ?_⟩
 ·rw [Array.size_append, show (Value.int IntKind.u8 0).cells = #[.int .u8 0] from rfl, Zh6, Zh6]
  have := grownCap_ge w k 0 5
  omega
 ·exact (Below.refl _ _).drew.alloc (Nat.le_refl _) _
theorem Zxs {w : World} {g n cap : Nat} {ρ : Operand -> Value} {o : Oper} (x y : Operand) (ho : o.op = .slice 23 x none (some y) none) (hx : ρ x = .slice (some ⟨g, 0, none⟩) n cap) (hy : ρ y = .int .i64 0) :
  (execOp ρ o).run Tryz.prog w = .ok (.value (.slice (some ⟨g, 0, none⟩) 0 cap)) w := by
 unfold execOp
 rw [ho]
 simp [hx, hy, Instr.sliceAt, run_underlying Tryz.underlying23, Instr.slice, Instr.sliceBounds, Instr.sliceBound, asIntOf, Za1, Result.andThen]
theorem Sk.old {K : Nat -> Prop} {w : World} {a : Option Addr} {n c : Nat} {bs : List Int} (h : Sk K w a n c bs) {x : Addr} (hx : a = some x) (hn : 0 < n) : x.block < w.heap.size := by
 rcases h.ag.i with ⟨h1, h2⟩ | ⟨gb, off, h1, h2, h3, h4, h5, h7⟩
 ·omega
 ·rw [hx] at h1
  cases h1
  have := block_lt_of_cell (h7 0 (by omega))
  exact this
theorem Sk.under {K : Nat -> Prop} {w w' : World} {a : Option Addr} {n c B : Nat} {bs : List Int} (h : Sk K w a n c bs) (hx : ∀ x, a = some x -> 0 < n -> x.block < B) (hb : Below B w w') : Sk K w' a n c bs := by
 refine ⟨⟨?_, h.ag.nil, h.ag.l, h.ag.b⟩, h.k⟩
 rcases h.ag.i with h1 | ⟨gb, off, h1, h2, h3, h4, h5, h7⟩
 ·exact .inl h1
 ·exact .inr ⟨gb, off, h1, h2, h3, h4, h5, fun j hj => (hb.cell (p := ⟨gb, off + j, none⟩) (show gb < B from hx ⟨gb, off, none⟩ h1 h3)).trans (h7 j hj)⟩
theorem Rw.under {g B : Nat} {w w' : World} {cells : Array Value} {T : TypeId} (h : Rw g w cells T) (hg : g < B) (hb : Below B w w') : Rw g w' cells T := (hb.block g hg).trans h
set_option maxHeartbeats 1000000 in
theorem Zur {w : World} (k : Nat) (hk : k <= 1000000) :
  Calls Tryz.prog 185 #[.slice none 0 0, .int .i64 ((k : Nat) : Int)] w fun e w' => ∃ u, e = .returned u /\ OwnB w' w.heap.size u [] /\ Bl w w' := by
 have hB := Bl.refl w
 refine Zaj Tryz.func185 rfl 27 rfl ?_
 show CW _ _ _ _ _ _ _ [(0, .slice none 0 0), (1, .int .i64 ((k : Nat) : Int))] _
 refine Zac <| Zaa <| rp 4 (.slice none 0 0) <| Zad <| Zab <| Zac <| Zac <| Zaa <| rp 5 (.int .i64 ((k : Nat) : Int)) <| rv 6 (.bool false) (fun _ => Zag (v := .bool (decide (((k : Nat) : Int) < (0 : Int)))) (by kernel_rfl) (congrArg Value.bool (decide_eq_false (by omega)))) <| Zad <| Zab ?_
 refine Zai (fun _ => by kernel_rfl) <| Zan <| Zab <| Zac <| Zac <| Zaa <| rp 8 (.int .i64 ((k : Nat) : Int)) <| rp 9 (.slice none 0 0) <| rp 10 (.int .i64 0) <| rp 11 (.slice none 0 0) <| rp 12 (.int .i64 0) <| rp 13 (.int .i64 0) ?_
 refine rv 14 (.int .i64 ((k : Nat) : Int)) (fun _ => Zag (v := .int .i64 (IntKind.i64.wrap (((k : Nat) : Int) - 0))) (by kernel_rfl) (congrArg (Value.int .i64) (by rw [Zbc (by omega) (by omega)]; omega))) <| rp 1 (.int .i64 ((k : Nat) : Int)) <| Zad <| Zab <| Zac <| Zaa <| rp 15 (.int .i64 ((k : Nat) : Int)) <| rp 16 (.bool (decide (((k : Nat) : Int) > (0 : Int)))) <| Zad <| Zab ?_
 cases hq1 : (decide (((k : Nat) : Int) > (0 : Int))) with
 | true =>
  refine Zak (fun _ => by kernel_rfl) <| Zaa <| rp 17 (.slice none 0 0) <| rp 18 (.slice none 0 0) <| rp 19 (.int .i64 0) <| rp 20 (.slice none 0 0) <| rp 21 (.int .i64 ((k : Nat) : Int)) ?_
  obtain ⟨cap9, w9, hr9, ho9, hb9⟩ := Zo2 w k (by simp only [decide_eq_true_eq] at *; omega) hk
  refine rw_v 22 (.slice (some ⟨w.heap.size, 0, none⟩) k cap9) (fun _ => by kernel_rfl) (fun _ => Zec hr9 _ _ rfl (by kernel_rfl) (by kernel_rfl)) <| rp 23 (.slice none 0 0) <| rp 24 (.int .i64 0) <| rv 25 (.slice (some ⟨w.heap.size, 0, none⟩) 0 cap9) (fun _ => Zxs (n := k) _ _ rfl (by kernel_rfl) (by kernel_rfl)) <| rp 0 (.slice (some ⟨w.heap.size, 0, none⟩) 0 cap9) <| Zad <| Zab <| Zac <| Zaa <| rp 26 (.slice (some ⟨w.heap.size, 0, none⟩) 0 cap9) <| rp 4 (.slice (some ⟨w.heap.size, 0, none⟩) 0 cap9) <| Zad ?_
  refine Zab <| Zap ?_
  exact Zae (.slice (some ⟨w.heap.size, 0, none⟩) 0 cap9) (fun _ => by kernel_rfl) ⟨_, rfl, ho9, hb9⟩
 | false =>
  refine Zai (fun _ => by kernel_rfl) <| Zan <| Zab <| Zac <| Zaa <| rp 26 (.slice none 0 0) <| rp 4 (.slice none 0 0) <| Zad <| Zab <| Zap ?_
  exact Zae (.slice none 0 0) (fun _ => by kernel_rfl) ⟨_, rfl, ⟨rfl, .inl ⟨rfl, rfl⟩⟩, hB⟩
set_option maxHeartbeats 1000000 in
theorem Zbf {K K' : Nat -> Prop} {w : World} {a a' : Option Addr} {n c n' c' : Nat} {p q : List Int} (h1 : Sk K w a n c p) (h2 : Sk K' w a' n' c' q) {g : Nat} (hL : Rw g w #[.slice a n c, .slice a' n' c'] 23) (hn : n <= 100000) (hn' : n' <= 100000) :
  Calls Tryz.prog 183 #[.slice (some ⟨g, 0, none⟩) 2 2] w fun e w' => ∃ u, e = .returned u /\ ∃ a2 n2 c2, u = .slice a2 n2 c2 /\ Sk (fun b => w.heap.size <= b) w' a2 n2 c2 (p ++ q) /\ Bl w w' := by
 have hw1 : ∀ x, a = some x -> 0 < n -> x.block < w.heap.size := fun x hx hn => h1.old hx hn
 have hw2 : ∀ x, a' = some x -> 0 < n' -> x.block < w.heap.size := fun x hx hn => h2.old hx hn
 have hgw : g < w.heap.size := lt_of_get hL
 have hB := Bl.refl w
 have l1 := h1.len
 have l2 := h2.len
 refine Zaj Tryz.func183 rfl 36 rfl ?_
 show CW _ _ _ _ _ _ _ [(0, .slice (some ⟨g, 0, none⟩) 2 2)] _
 refine Zac <| Zaa <| rp 2 (.slice none 0 0) <| Zad <| Zab <| Zac <| Zaa <| rp 3 (.int .i64 0) <| Zad <| Zab <| Zac <| Zac ?_
 refine Zaa <| rp 9 (.slice (some ⟨g, 0, none⟩) 2 2) <| rp 10 (.int .i64 2) <| rp 11 (.int .i64 0) <| Zad <| Zab <| Zar <| Zby (X := Nat × Nat) (fun x => [(11, .int .i64 ((x.1 : Nat) : Int)), (3, .int .i64 ((x.2 : Nat) : Int)), (9, .slice (some ⟨g, 0, none⟩) 2 2), (10, .int .i64 2), (0, .slice (some ⟨g, 0, none⟩) 2 2), (2, .slice none 0 0)]) (fun x v => (Sk K v a n c p /\ Sk K' v a' n' c' q /\ Rw g v #[.slice a n c, .slice a' n' c'] 23 /\ Bl w v) /\ (x = (0, 0) \/ x = (1, n) \/ x = (2, n + n'))) (fun x => 2 - x.1) (0, 0) (by exact ⟨fun _ => by kernel_rfl, ⟨fun _ => by kernel_rfl, ⟨fun _ => by kernel_rfl, ⟨fun _ => by kernel_rfl, ⟨fun _ => by kernel_rfl, ⟨fun _ => by kernel_rfl, trivial⟩⟩⟩⟩⟩⟩) ⟨⟨h1, h2, hL, hB⟩, .inl rfl⟩ ?_
 clear h1 h2 hL hB
 rintro x v ⟨⟨h1, h2, hL, hB⟩, hx⟩
 rcases hx with rfl | rfl | rfl
 ·skip
  show CW _ _ _ _ _ _ _ [(11, .int .i64 0), (3, .int .i64 0), (9, .slice (some ⟨g, 0, none⟩) 2 2), (10, .int .i64 2), (0, .slice (some ⟨g, 0, none⟩) 2 2), (2, .slice none 0 0)] _
  refine Zac <| Zaa <| rp 12 (.bool true) <| Zad <| Zab <| Zac <| Zak (fun _ => by kernel_rfl) <| Zan <| Zab <| Zac <| Zar <| Zac ?_
  refine Zaa <| rp 13 (.pointer (some ⟨g, 0, none⟩)) <| rv 14 (.slice a n c) (fun _ => Zah 23 _ ⟨g, 0, none⟩ _ _ rfl (by kernel_rfl) (by rw [cell_of_row _ _ _ _ _ _ hL]; rfl) Tryz.underlying23 rfl) <| rp 5 (.slice a n c) <| Zad <| Zab <| Zac <| Zaa <| rp 15 (.int .i64 0) <| rp 16 (.slice a n c) <| rp 17 (.int .i64 n) <| rv 18 (.int .i64 ((n : Nat) : Int)) (fun _ => Zag (v := .int .i64 (IntKind.i64.wrap ((0 : Int) + ((n : Nat) : Int)))) (by kernel_rfl) (congrArg (Value.int .i64) (by rw [Zbc (by omega) (by omega)]; omega))) ?_
  refine rp 3 (.int .i64 ((n : Nat) : Int)) <| Zad <| Zab <| Zac <| Zaa <| rp 19 (.int .i64 ((n : Nat) : Int)) <| rv 20 (.bool false) (fun _ => Zag (v := .bool (decide (((n : Nat) : Int) < (0 : Int)))) (by kernel_rfl) (congrArg Value.bool (decide_eq_false (by omega)))) <| Zad <| Zab <| Zai (fun _ => by kernel_rfl) <| Zan <| Za0 ?_
  refine Zab <| Zaa <| rp 22 (.int .i64 1) <| rp 11 (.int .i64 1) <| Zad ?_
  exact Za8 (E := fun x => [(11, .int .i64 ((x.1 : Nat) : Int)), (3, .int .i64 ((x.2 : Nat) : Int)), (9, .slice (some ⟨g, 0, none⟩) 2 2), (10, .int .i64 2), (0, .slice (some ⟨g, 0, none⟩) 2 2), (2, .slice none 0 0)]) (R := fun x v => (Sk K v a n c p /\ Sk K' v a' n' c' q /\ Rw g v #[.slice a n c, .slice a' n' c'] 23 /\ Bl w v) /\ (x = (0, 0) \/ x = (1, n) \/ x = (2, n + n'))) (μ := fun x => 2 - x.1) (x := (0, 0)) (1, n) (by exact ⟨fun _ => by kernel_rfl, ⟨fun _ => by kernel_rfl, ⟨fun _ => by kernel_rfl, ⟨fun _ => by kernel_rfl, ⟨fun _ => by kernel_rfl, ⟨fun _ => by kernel_rfl, trivial⟩⟩⟩⟩⟩⟩) ⟨⟨h1, h2, hL, hB⟩, .inr (.inl rfl)⟩ (by show 2 - 1 < 2 - 0; omega)
 ·skip
  show CW _ _ _ _ _ _ _ [(11, .int .i64 1), (3, .int .i64 ((n : Nat) : Int)), (9, .slice (some ⟨g, 0, none⟩) 2 2), (10, .int .i64 2), (0, .slice (some ⟨g, 0, none⟩) 2 2), (2, .slice none 0 0)] _
  refine Zac <| Zaa <| rp 12 (.bool true) <| Zad <| Zab <| Zac <| Zak (fun _ => by kernel_rfl) <| Zan <| Zab <| Zac <| Zar <| Zac ?_
  refine Zaa <| rp 13 (.pointer (some ⟨g, 1, none⟩)) <| rv 14 (.slice a' n' c') (fun _ => Zah 23 _ ⟨g, 1, none⟩ _ _ rfl (by kernel_rfl) (by rw [cell_of_row _ _ _ _ _ _ hL]; rfl) Tryz.underlying23 rfl) <| rp 5 (.slice a' n' c') <| Zad <| Zab <| Zac <| Zaa <| rp 15 (.int .i64 ((n : Nat) : Int)) <| rp 16 (.slice a' n' c') <| rp 17 (.int .i64 n') <| rv 18 (.int .i64 ((n + n' : Nat) : Int)) (fun _ => Zag (v := .int .i64 (IntKind.i64.wrap (((n : Nat) : Int) + ((n' : Nat) : Int)))) (by kernel_rfl) (congrArg (Value.int .i64) (by rw [Zbc (by omega) (by omega)]; omega))) ?_
  refine rp 3 (.int .i64 ((n + n' : Nat) : Int)) <| Zad <| Zab <| Zac <| Zaa <| rp 19 (.int .i64 ((n + n' : Nat) : Int)) <| rv 20 (.bool false) (fun _ => Zag (v := .bool (decide (((n + n' : Nat) : Int) < (0 : Int)))) (by kernel_rfl) (congrArg Value.bool (decide_eq_false (by omega)))) <| Zad <| Zab <| Zai (fun _ => by kernel_rfl) <| Zan <| Za0 ?_
  refine Zab <| Zaa <| rp 22 (.int .i64 2) <| rp 11 (.int .i64 2) <| Zad ?_
  exact Za8 (E := fun x => [(11, .int .i64 ((x.1 : Nat) : Int)), (3, .int .i64 ((x.2 : Nat) : Int)), (9, .slice (some ⟨g, 0, none⟩) 2 2), (10, .int .i64 2), (0, .slice (some ⟨g, 0, none⟩) 2 2), (2, .slice none 0 0)]) (R := fun x v => (Sk K v a n c p /\ Sk K' v a' n' c' q /\ Rw g v #[.slice a n c, .slice a' n' c'] 23 /\ Bl w v) /\ (x = (0, 0) \/ x = (1, n) \/ x = (2, n + n'))) (μ := fun x => 2 - x.1) (x := (1, n)) (2, n + n') (by exact ⟨fun _ => by kernel_rfl, ⟨fun _ => by kernel_rfl, ⟨fun _ => by kernel_rfl, ⟨fun _ => by kernel_rfl, ⟨fun _ => by kernel_rfl, ⟨fun _ => by kernel_rfl, trivial⟩⟩⟩⟩⟩⟩) ⟨⟨h1, h2, hL, hB⟩, .inr (.inr rfl)⟩ (by show 2 - 2 < 2 - 1; omega)
 ·skip
  show CW _ _ _ _ _ _ _ [(11, .int .i64 2), (3, .int .i64 ((n + n' : Nat) : Int)), (9, .slice (some ⟨g, 0, none⟩) 2 2), (10, .int .i64 2), (0, .slice (some ⟨g, 0, none⟩) 2 2), (2, .slice none 0 0)] _
  refine Zac <| Zaa <| rp 12 (.bool false) <| Zad <| Zab <| Zac <| Zai (fun _ => by kernel_rfl) <| Zbl <| Zal <| Zal <| Zay <| Zab ?_
  refine Zac ?_
  have hB0 := hB
  refine Zaa <| rp 23 (.int .i64 ((n + n' : Nat) : Int)) <| Zao 24 185 #[.slice none 0 0, .int .i64 ((n + n' : Nat) : Int)] (fun _ => by kernel_rfl) (fun _ => by kernel_rfl) (R := fun u w' => OwnB w' v.heap.size u [] /\ Bl v w') (Zur (n + n') (by omega)) ?_
  rintro vO u1 ⟨hO, hb1⟩
  replace h1 := h1.go hb1
  replace h2 := h2.go hb1
  replace hB := hB.go hb1
  replace hL := hL.go hb1
  have hsz := hB.size
  refine rp 6 (vO) <| Zad <| Zab <| Zac <| Zac <| Zaa <| rp 25 (.slice (some ⟨g, 0, none⟩) 2 2) <| rp 26 (.int .i64 2) <| rp 27 (.int .i64 0) <| Zad <| Zab <| Zar ?_
  have hbv := hb1.size
  refine Zby (X := Nat × Value) (fun x => [(27, .int .i64 ((x.1 : Nat) : Int)), (6, x.2), (25, .slice (some ⟨g, 0, none⟩) 2 2), (26, .int .i64 2)]) (fun x v' => (Sk K v' a n c p /\ Sk K' v' a' n' c' q /\ Rw g v' #[.slice a n c, .slice a' n' c'] 23 /\ Bl w v') /\ v.heap.size <= v'.heap.size /\ ((x.1 = 0 /\ OwnB v' v.heap.size x.2 []) \/ (x.1 = 1 /\ OwnB v' v.heap.size x.2 p) \/ (x.1 = 2 /\ OwnB v' v.heap.size x.2 (p ++ q)))) (fun x => 2 - x.1) (0, vO) (by exact ⟨fun _ => by kernel_rfl, ⟨fun _ => by kernel_rfl, ⟨fun _ => by kernel_rfl, ⟨fun _ => by kernel_rfl, trivial⟩⟩⟩⟩) ⟨⟨h1, h2, hL, hB⟩, hbv, .inl ⟨rfl, hO⟩⟩ ?_
  have hwv := hB0.size
  clear h1 h2 hL hB hO hbv
  rintro ⟨j, vP⟩ v' ⟨⟨h1, h2, hL, hB⟩, hbv, hx⟩
  rcases hx with ⟨hj, hO⟩ | ⟨hj, hO⟩ | ⟨hj, hO⟩ <;> simp only at hj hO <;> subst hj
  ·skip
   show CW _ _ _ _ _ _ _ [(27, .int .i64 0), (6, vP), (25, .slice (some ⟨g, 0, none⟩) 2 2), (26, .int .i64 2)] _
   refine Zac <| Zaa <| rp 28 (.bool true) <| Zad <| Zab <| Zac <| Zak (fun _ => by kernel_rfl) <| Zan <| Zab <| Zac <| Zar <| Zac ?_
   refine Zaa <| rp 29 (.pointer (some ⟨g, 0, none⟩)) <| rv 30 (.slice a n c) (fun _ => Zah 23 _ ⟨g, 0, none⟩ _ _ rfl (by kernel_rfl) (by rw [cell_of_row _ _ _ _ _ _ hL]; rfl) Tryz.underlying23 rfl) <| rp 8 (.slice a n c) <| Zad <| Zab <| Zaa <| rp 31 (vP) <| rp 32 (.slice a n c) ?_
   obtain ⟨v1, w9, hr9, ho9, hb9⟩ := Zen hO h1.ag (by simp; omega) hbv
   rw [List.nil_append] at ho9
   refine rw_v 33 v1 (fun _ => by kernel_rfl) (fun _ => Zg8 hr9 _ _ rfl (by kernel_rfl) (by kernel_rfl)) ?_
   have hb9' : Below w.heap.size v' w9 := hb9.mono hwv
   replace h1 := h1.under hw1 hb9'
   replace h2 := h2.under hw2 hb9'
   replace hL := hL.under hgw hb9'
   replace hB : Bl w w9 := Below.trans hB hb9'
   refine rp 6 (v1) <| Zad <| Za0 <| Zab <| Zaa <| rp 34 (.int .i64 1) <| rp 27 (.int .i64 1) <| Zad ?_
   exact Za8 (E := fun x => [(27, .int .i64 ((x.1 : Nat) : Int)), (6, x.2), (25, .slice (some ⟨g, 0, none⟩) 2 2), (26, .int .i64 2)]) (R := fun x v' => (Sk K v' a n c p /\ Sk K' v' a' n' c' q /\ Rw g v' #[.slice a n c, .slice a' n' c'] 23 /\ Bl w v') /\ v.heap.size <= v'.heap.size /\ ((x.1 = 0 /\ OwnB v' v.heap.size x.2 []) \/ (x.1 = 1 /\ OwnB v' v.heap.size x.2 p) \/ (x.1 = 2 /\ OwnB v' v.heap.size x.2 (p ++ q)))) (μ := fun x => 2 - x.1) (x := (0, vP)) (1, v1) (by exact ⟨fun _ => by kernel_rfl, ⟨fun _ => by kernel_rfl, ⟨fun _ => by kernel_rfl, ⟨fun _ => by kernel_rfl, trivial⟩⟩⟩⟩) ⟨⟨h1, h2, hL, hB⟩, by have := hb9.size; omega, .inr (.inl ⟨rfl, ho9⟩)⟩ (by show 2 - 1 < 2 - 0; omega)
  ·skip
   show CW _ _ _ _ _ _ _ [(27, .int .i64 1), (6, vP), (25, .slice (some ⟨g, 0, none⟩) 2 2), (26, .int .i64 2)] _
   refine Zac <| Zaa <| rp 28 (.bool true) <| Zad <| Zab <| Zac <| Zak (fun _ => by kernel_rfl) <| Zan <| Zab <| Zac <| Zar <| Zac ?_
   refine Zaa <| rp 29 (.pointer (some ⟨g, 1, none⟩)) <| rv 30 (.slice a' n' c') (fun _ => Zah 23 _ ⟨g, 1, none⟩ _ _ rfl (by kernel_rfl) (by rw [cell_of_row _ _ _ _ _ _ hL]; rfl) Tryz.underlying23 rfl) <| rp 8 (.slice a' n' c') <| Zad <| Zab <| Zaa <| rp 31 (vP) <| rp 32 (.slice a' n' c') ?_
   obtain ⟨v1, w9, hr9, ho9, hb9⟩ := Zen hO h2.ag (by omega) hbv
   refine rw_v 33 v1 (fun _ => by kernel_rfl) (fun _ => Zg8 hr9 _ _ rfl (by kernel_rfl) (by kernel_rfl)) ?_
   have hb9' : Below w.heap.size v' w9 := hb9.mono hwv
   replace h1 := h1.under hw1 hb9'
   replace h2 := h2.under hw2 hb9'
   replace hL := hL.under hgw hb9'
   replace hB : Bl w w9 := Below.trans hB hb9'
   refine rp 6 (v1) <| Zad <| Za0 <| Zab <| Zaa <| rp 34 (.int .i64 2) <| rp 27 (.int .i64 2) <| Zad ?_
   exact Za8 (E := fun x => [(27, .int .i64 ((x.1 : Nat) : Int)), (6, x.2), (25, .slice (some ⟨g, 0, none⟩) 2 2), (26, .int .i64 2)]) (R := fun x v' => (Sk K v' a n c p /\ Sk K' v' a' n' c' q /\ Rw g v' #[.slice a n c, .slice a' n' c'] 23 /\ Bl w v') /\ v.heap.size <= v'.heap.size /\ ((x.1 = 0 /\ OwnB v' v.heap.size x.2 []) \/ (x.1 = 1 /\ OwnB v' v.heap.size x.2 p) \/ (x.1 = 2 /\ OwnB v' v.heap.size x.2 (p ++ q)))) (μ := fun x => 2 - x.1) (x := (1, vP)) (2, v1) (by exact ⟨fun _ => by kernel_rfl, ⟨fun _ => by kernel_rfl, ⟨fun _ => by kernel_rfl, ⟨fun _ => by kernel_rfl, trivial⟩⟩⟩⟩) ⟨⟨h1, h2, hL, hB⟩, by have := hb9.size; omega, .inr (.inr ⟨rfl, ho9⟩)⟩ (by show 2 - 2 < 2 - 1; omega)
  ·skip
   show CW _ _ _ _ _ _ _ [(27, .int .i64 2), (6, vP), (25, .slice (some ⟨g, 0, none⟩) 2 2), (26, .int .i64 2)] _
   refine Zac <| Zaa <| rp 28 (.bool false) <| Zad <| Zab <| Zac <| Zai (fun _ => by kernel_rfl) <| Zbl <| Zal <| Zal <| Zay <| Zab ?_
   refine Zac <| Zaa <| rp 35 (vP) <| rp 2 (vP) <| Zad <| Zab <| Zap ?_
   obtain ⟨a9, c9, rfl, hs9⟩ := hO.sk (K := fun b => w.heap.size <= b) (Zra h1.ag.b h2.ag.b) (fun b hb => by omega)
   exact Zae (.slice a9 (p ++ q).length c9) (fun _ => by kernel_rfl) ⟨_, rfl, _, _, _, rfl, hs9, hB⟩
end Go.Proofs.YtefhepcplempkaaGreat
namespace Go.Proofs.YtefhepcplempkaaGreat.Ni
open Go.RowKit
set_option maxHeartbeats 1000000 in
theorem common_any (a1 a2 : Option Addr) (n1 c1 n2 c2 : Nat) (p q : List Int) (w : World) (h1 : Ag w a1 n1 c1 p) (h2 : Ag w a2 n2 c2 q) (hn1 : n1 <= 140737488355328) (hn2 : n2 <= 140737488355328) :
  Calls Tryz.prog 81 #[.slice a1 n1 c1, .slice a2 n2 c2] w fun e w' => e = .returned (.int .i64 (com p q : Nat)) /\ Below w.heap.size w w' := by
 have HL1 := Hid.mk h1.l
 have HL2 := Hid.mk h2.l
 have HC1 := Hid.mk (fun h => ag_head h1 h)
 have HC2 := Hid.mk (fun h => ag_head h2 h)
 clear h1 h2
 obtain ⟨res, hres⟩ : ∃ r, com p q = r := ⟨_, rfl⟩
 rw [hres]
 have HRES := Hid.mk hres
 clear hres
 go_enter Tryz.func81, Tryz.ntmps81
 go_wp2_with fail
 go_loopw [5] (fun i v => ∃ j : Nat, j <= n1 /\ j <= n2 /\ i = .int .i64 j /\ p.take j = q.take j /\ Below w.heap.size w v) (fun i _ => n1 - (intOf i).toNat)
 case atStart => exact ⟨0, by omega, by omega, rfl, rfl, Below.refl _ _⟩
 case round =>
  obtain ⟨j, hj1, hj2, rfl, htk, hb⟩ := hrel
  have HTK := Hid.mk htk
  have HBW := Hid.mk hb
  clear htk hb
  have HD : Hid ((j = p.length \/ j = q.length \/ p.getD j 0 ≠ q.getD j 0) -> res = j) := Hid.mk (fun h => HRES.out.symm.trans (Znw p q j (by have := HL1.out; omega) (by have := HL2.out; omega) HTK.out h))
  by_cases hlt1 : j < n1
  case neg =>
   have hji : ¬ (j : Int) < n1 := by omega
   have e := HD.out (.inl (by have := HL1.out; omega))
   subst e
   go_wp2_with fail
   go_region
   all_goals
    go_wp2_with fail
    go_ret
    exact ⟨rfl, HBW.out.drew⟩
  have hji1 : (j : Int) < n1 := by omega
  by_cases hlt2 : j < n2
  case neg =>
   have hji : ¬ (j : Int) < n2 := by omega
   have e := HD.out (.inr (.inl (by have := HL2.out; omega)))
   subst e
   go_wp2_with fail
   go_region
   all_goals
    go_wp2_with fail
    go_ret
    exact ⟨rfl, HBW.out.drew⟩
  have hji2 : (j : Int) < n2 := by omega
  obtain ⟨g1, o1, rfl, hnc1, hcm1, hcs1⟩ := HC1.out (by omega)
  obtain ⟨g2, o2, rfl, hnc2, hcm2, hcs2⟩ := HC2.out (by omega)
  unfold maxLen at hcm1 hcm2
  have hcell1 := (HBW.out.cell (p := ⟨g1, o1 + j, none⟩) (block_lt_of_cell (hcs1 j hlt1))).trans (hcs1 j hlt1)
  have hcell2 := (HBW.out.cell (p := ⟨g2, o2 + j, none⟩) (block_lt_of_cell (hcs2 j hlt2))).trans (hcs2 j hlt2)
  have HT1 := Hid.mk (Zeq (b := p) (i := j) (by have := HL1.out; omega))
  have HT2 := Hid.mk (Zeq (b := q) (i := j) (by have := HL2.out; omega))
  generalize p.getD j 0 = x at *
  generalize q.getD j 0 = y at *
  clear hcs1 hcs2
  by_cases hxy : x = y
  ·subst hxy
   have hq : (x == x) = true := by simp
   go_wp2_with fail
   go_region
   all_goals
    go_wp2_with fail
    exact ⟨⟨j + 1, by omega, by omega, by simp, by rw [HT1.out, HT2.out, HTK.out], HBW.out.drew⟩, by simp [intOf]; omega⟩
  ·have e := HD.out (.inr (.inr hxy))
   subst e
   have hq : (x == y) = false := by simpa using hxy
   clear hxy
   go_wp2_with fail
   go_region
   all_goals
    go_wp2_with fail
    go_ret
    exact ⟨rfl, HBW.out.drew⟩
end Go.Proofs.YtefhepcplempkaaGreat.Ni
namespace Go.Proofs.YtefhepcplempkaaGreat
open Go.RowKit
open Tr
theorem Zg7 {P : Program} {ρ : Operand -> Value} {w : World} {o : Oper} {kd : IntKind} (T : TypeId) (x y : Operand) (g off j len sz : Nat) (E : TypeId) (ho : o.op = .indexAddr T x y) (hx : ρ x = .pointer (some ⟨g, off, none⟩)) (hy : ρ y = .int kd j) (hj : j < len) (h2 : 1 < len) (hu : P.underlying T = some (.array len E)) (hi : (P.info? E).map (·.size) = some sz) :
  (execOp ρ o).run P w = .ok (.value (.pointer (some ⟨g, off + j * sz, none⟩))) w := by
 have hs : (sizeOf E).run P w = .ok sz w := by
  cases hq : P.info? E with
  | none => simp [hq] at hi
  | some z => simp [hq] at hi; simp [sizeOf, typeInfo, hq, hi]
 unfold execOp
 rw [ho]
 simp only [hx, hy]
 have he : (if j * sz = 0 then (⟨g, off, none⟩ : Addr) else ⟨g, off + j * sz, none⟩) = ⟨g, off + j * sz, none⟩ := by split <;> simp_all
 simp [Instr.indexAt, Instr.sureAddr, asIntOf, run_underlying hu, hs, hj, Result.andThen, Addr.add, he]
theorem Sk.head {K : Nat -> Prop} {w : World} {a : Option Addr} {n c : Nat} {i : Int} {r : List Int} (h : Sk K w a n c (i :: r)) : ∃ g o, a = some ⟨g, o, none⟩ /\ w.cell? ⟨g, o + 0 * 1, none⟩ = some (.int .u8 i) /\ 0 < n := by
 have hl := h.len
 rw [List.length_cons] at hl
 rcases h.ag.i with ⟨h1, h2⟩ | ⟨gb, off, h1, h2, h3, h4, h5, h7⟩
 ·omega
 ·exact ⟨gb, off, h1, by rw [show off + 0 * 1 = off + 0 from by omega, h7 0 (by simp)]; rfl, h3⟩
def TK (K : Nat -> Prop) (w : World) (k : Nat -> Tr) (vs : Nat -> Value) : Prop := ∀ i, i < 16 -> TA K w (k i) (vs i)
theorem TK.go {K : Nat -> Prop} {w w' : World} {k : Nat -> Tr} {vs : Nat -> Value} (h : TK K w k vs) (hb : Below w.heap.size w w') : TK K w' k vs := fun i hi => (h i hi).go hb
theorem TK.drew {K : Nat -> Prop} {w : World} {k : Nat -> Tr} {vs : Nat -> Value} (h : TK K w k vs) : TK K w.drew k vs := fun i hi => (h i hi).drew
structure Sx (g : Nat) (cells : Array Value) (T : TypeId) (p : Addr) (x : Value) (w : World) : Prop where
 r : Rw g w cells T
 c : w.cell? p = some x
theorem Sx.go {g : Nat} {cells : Array Value} {T : TypeId} {p : Addr} {x : Value} {w w' : World} (h : Sx g cells T p x w) (hb : Below w.heap.size w w') : Sx g cells T p x w' := ⟨h.r.go hb, (hb.cell (p := p) (block_lt_of_cell h.c)).trans h.c⟩
theorem Sx.drew {g : Nat} {cells : Array Value} {T : TypeId} {p : Addr} {x : Value} {w : World} (h : Sx g cells T p x w) : Sx g cells T p x w.drew := h.go (Below.refl _ _).drew
def RS (K : Nat -> Prop) (w : World) (x : List Int) : Value -> World -> Prop := fun u w' => (∃ a n c, u = .slice a n c /\ Sk K w' a n c x) /\ Bl w w'
def TRs (K : Nat -> Prop) (w : World) (t : Tr) : Value -> World -> Prop := fun u w' => TA K w' t u /\ Bl w w'
def FS (t : Tr) : Prop := ∀ {K : Nat -> Prop} {w : World} {v : Value} {a : Option Addr} {n c : Nat} {q : List Int} {B : Nat}, Ok B t -> TA K w t v -> Sk K w a n c q -> Nb q -> MC "pergola/trie.find" v #[.slice a n c] w (RS K w (Tr.get t q))
end Go.Proofs.YtefhepcplempkaaGreat
namespace Go.Proofs.YtefhepcplempkaaGreat
open Go.RowKit
open Tr
theorem Sk.mono {K K' : Nat -> Prop} {w : World} {a : Option Addr} {n c : Nat} {bs : List Int} (h : Sk K w a n c bs) (hK : ∀ b, K b -> K' b) : Sk K' w a n c bs := ⟨h.ag, fun x hx hn => hK _ (h.k x hx hn)⟩
theorem TA.iface {K : Nat -> Prop} {w : World} {t : Tr} {v : Value} (h : TA K w t v) (hne : t ≠ no) : ∃ T x, v = .iface T x := by
 cases t with
 | no => exact absurd rfl hne
 | leaf p x => obtain ⟨_, _, _, _, _, _, rfl, _⟩ := h; exact ⟨_, _, rfl⟩
 | ext p t => obtain ⟨_, _, _, _, rfl, _⟩ := h; exact ⟨_, _, rfl⟩
 | br k x => obtain ⟨_, _, _, _, rfl, _⟩ := h; exact ⟨_, _, rfl⟩
def US (t : Tr) : Prop := ∀ {K : Nat -> Prop} {w : World} {v : Value} {a : Option Addr} {n c : Nat} {q : List Int} {B : Nat}, Ok B t -> TA K w t v -> Sk K w a n c q -> q.length <= 64 -> B <= 64 -> (∀ b, w.heap.size <= b -> K b) -> MC "pergola/trie.under" v #[.slice a n c] w (TRs K w (und q t))
set_option maxHeartbeats 1000000 in
theorem Zot {K : Nat -> Prop} {w : World} {a a' : Option Addr} {n c n' c' : Nat} {p x : List Int} (hp : Sk K w a n c p) (hx : Sk K w a' n' c' x) (hn2 : n' <= 256) {aq : Option Addr} {nq cq : Nat} {q : List Int} (hq : Sk K w aq nq cq q) (hK : ∀ b, w.heap.size <= b -> K b) (hl1 : p.length <= 64) (hl2 : q.length <= 64) :
  Calls Tryz.prog 180 #[.agg #[.slice a n c, .slice a' n' c'], .slice aq nq cq] w fun e w' => ∃ u, e = .returned u /\ TRs K w (und q (leaf p x)) u w' := by
 have hB := Bl.refl w
 refine Zaj Tryz.func180 rfl 14 rfl ?_
 show CW _ _ _ _ _ _ _ [(0, .agg #[.slice a n c, .slice a' n' c']), (1, .slice aq nq cq)] _
 refine Zac <| Zaa <| Zax 2 (#[.slice a n c, .slice a' n' c']) 131 (fun _ => by kernel_rfl) (fun _ => by kernel_rfl) ?_
 intro w1 g2 hn3
 replace hB := hB.go hn3.below
 replace hp := hp.go hn3.below
 replace hq := hq.go hn3.below
 replace hx := hx.go hn3.below
 have hr4 : Rw g2 w1 (#[.slice a n c, .slice a' n' c']) 131 := hn3.row
 refine rp 4 (.nilIface) <| Zad <| Zab <| Zac ?_
 have lp := hp.len
 have lq := hq.len
 refine Zaz (fun v => Rw g2 v (#[.slice a n c, .slice a' n' c']) 131) (by kernel_rfl) (hr4.drew) ?_
 replace hB := hB.drew
 replace hp := hp.drew
 replace hq := hq.drew
 replace hx := hx.drew
 replace hr4 := hr4.drew
 refine dt 0 5 (.slice aq nq cq) (fun v hv _ => by kernel_rfl) hr4 <| dt 1 6 (.pointer (some ⟨g2, 0, none⟩)) (fun v hv _ => by kernel_rfl) hr4 <| dt 2 7 (.slice a n c) (fun v hv _ => Zah 23 _ ⟨g2, 0, none⟩ _ _ rfl (by kernel_rfl) (by rw [cell_of_row _ _ _ _ _ _ hv]; rfl) Tryz.underlying23 rfl) hr4 <| dt 5 10 (.pointer (some ⟨g2, 1, none⟩)) (fun v hv _ => by kernel_rfl) hr4 <| dt 6 11 (.slice a' n' c') (fun v hv _ => Zah 23 _ ⟨g2, 1, none⟩ _ _ rfl (by kernel_rfl) (by rw [cell_of_row _ _ _ _ _ _ hv]; rfl) Tryz.underlying23 rfl) hr4 <| Zaf [3] (by kernel_rfl) (by simp) ?_
 refine Zbz 3 8 #[.slice aq nq cq, .slice a n c] 23 2 rfl (fun _ => by kernel_rfl) (fun _ => by kernel_rfl) (fun w' g h => hr4.go h.below) ?_ Zam
 intro w5 g6 hn7
 replace hB := hB.go hn7.below
 replace hp := hp.go hn7.below
 replace hq := hq.go hn7.below
 replace hx := hx.go hn7.below
 replace hr4 := hr4.go hn7.below
 have hL : Rw g6 w5 #[.slice aq nq cq, .slice a n c] 23 := hn7.row
 refine Zaf [4] (by kernel_rfl) (by simp) ?_
 refine Zat 4 9 183 #[.slice (some ⟨g6, 0, none⟩) 2 2] rfl (fun _ => by kernel_rfl) (fun _ => by kernel_rfl) (R := fun u w' => ∃ a2 n2 c2, u = .slice a2 n2 c2 /\ Sk (fun b => (w5).heap.size <= b) w' a2 n2 c2 (q ++ p) /\ Bl (w5) w') ((Zbf hq hp hL (by omega) (by omega))) (fun u w' h => hr4.go (by obtain ⟨_, _, _, _, _, h⟩ := h; exact h)) ?_ Zam
 rintro _ u8 ⟨a3, n3, c3, rfl, hs3, hb9⟩
 have hsB := hB.size
 replace hs3 : Sk K u8 a3 n3 c3 (q ++ p) := hs3.mono (fun b hb => hK b (Nat.le_trans hsB hb))
 replace hB := hB.go hb9
 replace hp := hp.go hb9
 replace hq := hq.go hb9
 replace hx := hx.go hb9
 replace hr4 := hr4.go hb9
 replace hL := hL.go hb9
 refine dt 7 12 (.agg #[.slice a3 n3 c3, .slice a' n' c']) (fun v hv => (fun _ => by kernel_rfl)) hr4 <| dt 8 13 (.iface 131 (.agg #[.slice a3 n3 c3, .slice a' n' c'])) (fun v hv _ => by kernel_rfl) hr4 <| dt 9 4 (.iface 131 (.agg #[.slice a3 n3 c3, .slice a' n' c'])) (fun v hv _ => by kernel_rfl) hr4 <| Zas (by kernel_rfl) <| Zab <| Zap ?_
 exact Zae (.iface 131 (.agg #[.slice a3 n3 c3, .slice a' n' c'])) (fun _ => by kernel_rfl) ⟨_, rfl, ⟨_, _, _, _, _, _, rfl, hs3, hx, hn2⟩, hB⟩
set_option maxHeartbeats 1000000 in
theorem Zo6 {K : Nat -> Prop} {w : World} {a : Option Addr} {n c : Nat} {p : List Int} {t : Tr} {Tu : TypeId} {xu : Value} (hp : Sk K w a n c p) (ht : TA K w t (.iface Tu xu)) {aq : Option Addr} {nq cq : Nat} {q : List Int} (hq : Sk K w aq nq cq q) (hK : ∀ b, w.heap.size <= b -> K b) (hl1 : p.length <= 64) (hl2 : q.length <= 64) :
  Calls Tryz.prog 198 #[.agg #[.slice a n c, .iface Tu xu], .slice aq nq cq] w fun e w' => ∃ u, e = .returned u /\ TRs K w (und q (ext p t)) u w' := by
 have hB := Bl.refl w
 refine Zaj Tryz.func198 rfl 14 rfl ?_
 show CW _ _ _ _ _ _ _ [(0, .agg #[.slice a n c, .iface Tu xu]), (1, .slice aq nq cq)] _
 refine Zac <| Zaa <| Zax 2 (#[.slice a n c, .iface Tu xu]) 226 (fun _ => by kernel_rfl) (fun _ => by kernel_rfl) ?_
 intro w1 g2 hn3
 replace hB := hB.go hn3.below
 replace hp := hp.go hn3.below
 replace hq := hq.go hn3.below
 replace ht := ht.go hn3.below
 have hr4 : Rw g2 w1 (#[.slice a n c, .iface Tu xu]) 226 := hn3.row
 refine rp 4 (.nilIface) <| Zad <| Zab <| Zac ?_
 have lp := hp.len
 have lq := hq.len
 refine Zaz (fun v => Rw g2 v (#[.slice a n c, .iface Tu xu]) 226) (by kernel_rfl) (hr4.drew) ?_
 replace hB := hB.drew
 replace hp := hp.drew
 replace hq := hq.drew
 replace ht := ht.drew
 replace hr4 := hr4.drew
 refine dt 0 5 (.slice aq nq cq) (fun v hv _ => by kernel_rfl) hr4 <| dt 1 6 (.pointer (some ⟨g2, 0, none⟩)) (fun v hv _ => by kernel_rfl) hr4 <| dt 2 7 (.slice a n c) (fun v hv _ => Zah 23 _ ⟨g2, 0, none⟩ _ _ rfl (by kernel_rfl) (by rw [cell_of_row _ _ _ _ _ _ hv]; rfl) Tryz.underlying23 rfl) hr4 <| dt 5 10 (.pointer (some ⟨g2, 1, none⟩)) (fun v hv _ => by kernel_rfl) hr4 <| dt 6 11 (.iface Tu xu) (fun v hv _ => Zah 74 _ ⟨g2, 1, none⟩ _ _ rfl (by kernel_rfl) (by rw [cell_of_row _ _ _ _ _ _ hv]; rfl) Tryz.underlying74 rfl) hr4 <| Zaf [3] (by kernel_rfl) (by simp) ?_
 refine Zbz 3 8 #[.slice aq nq cq, .slice a n c] 23 2 rfl (fun _ => by kernel_rfl) (fun _ => by kernel_rfl) (fun w' g h => hr4.go h.below) ?_ Zam
 intro w5 g6 hn7
 replace hB := hB.go hn7.below
 replace hp := hp.go hn7.below
 replace hq := hq.go hn7.below
 replace ht := ht.go hn7.below
 replace hr4 := hr4.go hn7.below
 have hL : Rw g6 w5 #[.slice aq nq cq, .slice a n c] 23 := hn7.row
 refine Zaf [4] (by kernel_rfl) (by simp) ?_
 refine Zat 4 9 183 #[.slice (some ⟨g6, 0, none⟩) 2 2] rfl (fun _ => by kernel_rfl) (fun _ => by kernel_rfl) (R := fun u w' => ∃ a2 n2 c2, u = .slice a2 n2 c2 /\ Sk (fun b => (w5).heap.size <= b) w' a2 n2 c2 (q ++ p) /\ Bl (w5) w') ((Zbf hq hp hL (by omega) (by omega))) (fun u w' h => hr4.go (by obtain ⟨_, _, _, _, _, h⟩ := h; exact h)) ?_ Zam
 rintro _ u8 ⟨a3, n3, c3, rfl, hs3, hb9⟩
 have hsB := hB.size
 replace hs3 : Sk K u8 a3 n3 c3 (q ++ p) := hs3.mono (fun b hb => hK b (Nat.le_trans hsB hb))
 replace hB := hB.go hb9
 replace hp := hp.go hb9
 replace hq := hq.go hb9
 replace ht := ht.go hb9
 replace hr4 := hr4.go hb9
 replace hL := hL.go hb9
 refine dt 7 12 (.agg #[.slice a3 n3 c3, .iface Tu xu]) (fun v hv => (fun _ => by kernel_rfl)) hr4 <| dt 8 13 (.iface 226 (.agg #[.slice a3 n3 c3, .iface Tu xu])) (fun v hv _ => by kernel_rfl) hr4 <| dt 9 4 (.iface 226 (.agg #[.slice a3 n3 c3, .iface Tu xu])) (fun v hv _ => by kernel_rfl) hr4 <| Zas (by kernel_rfl) <| Zab <| Zap ?_
 exact Zae (.iface 226 (.agg #[.slice a3 n3 c3, .iface Tu xu])) (fun _ => by kernel_rfl) ⟨_, rfl, ⟨_, _, _, _, rfl, hs3, ht⟩, hB⟩
set_option maxHeartbeats 1000000 in
theorem Zu3 {K : Nat -> Prop} {w : World} {a : Option Addr} {n c : Nat} {x : List Int} {k : Nat -> Tr} {vs : Nat -> Value} (hk : TK K w k vs) (hx : Sk K w a n c x) (hn2 : n <= 256) {aq : Option Addr} {nq cq : Nat} {q : List Int} (hq : Sk K w aq nq cq q) (hnq : nq = 0) :
  Calls Tryz.prog 192 #[.agg (brc vs (.slice a n c)), .slice aq nq cq] w fun e w' => ∃ u, e = .returned u /\ TRs K w (und q (br k x)) u w' := by
 have hB := Bl.refl w
 refine Zaj Tryz.func192 rfl 15 rfl ?_
 show CW _ _ _ _ _ _ _ [(0, .agg (brc vs (.slice a n c))), (1, .slice aq nq cq)] _
 refine Zac <| Zaa <| Zax 2 (brc vs (.slice a n c)) 221 (fun _ => by kernel_rfl) (fun _ => by kernel_rfl) ?_
 intro w1 g2 hn3
 replace hB := hB.go hn3.below
 replace hx := hx.go hn3.below
 replace hq := hq.go hn3.below
 replace hk := hk.go hn3.below
 have hr4 : Rw g2 w1 (brc vs (.slice a n c)) 221 := hn3.row
 refine rp 4 (.nilIface) <| Zad <| Zab <| Zac <| Zac <| Zaa <| rp 5 (.slice aq nq cq) <| rp 6 (.int .i64 nq) <| rv 7 (.bool true) (fun _ => Zag (v := .bool ((nq : Int) == (0 : Int))) (by kernel_rfl) (congrArg Value.bool (beq_iff_eq.2 (by omega)))) <| Zad <| Zab <| Zak (fun _ => by kernel_rfl) ?_
 refine Zac <| Zaa <| rv 8 (.agg (brc vs (.slice a n c))) (fun _ => Zb8 221 _ _ _ _ _ _ rfl (by kernel_rfl) hr4 Tryz.underlying221 rfl (by kernel_rfl)) <| rp 9 (.iface 221 (.agg (brc vs (.slice a n c)))) <| rp 4 (.iface 221 (.agg (brc vs (.slice a n c)))) <| Zad <| Zab <| Zap <| Zaq ?_
 exact Zae (.iface 221 (.agg (brc vs (.slice a n c)))) (fun _ => by kernel_rfl) ⟨_, rfl, (by have e : q = [] := List.eq_nil_of_length_eq_zero (by have := hq.len; omega); subst e; exact ⟨vs, _, _, _, rfl, hk, hx, hn2⟩), hB⟩
set_option maxHeartbeats 1000000 in
theorem Zu4 {K : Nat -> Prop} {w : World} {a : Option Addr} {n c : Nat} {x : List Int} {k : Nat -> Tr} {vs : Nat -> Value} (hk : TK K w k vs) (hx : Sk K w a n c x) (hn2 : n <= 256) {aq : Option Addr} {nq cq : Nat} {q : List Int} (hq : Sk K w aq nq cq q) (hnq : 0 < nq) :
  Calls Tryz.prog 192 #[.agg (brc vs (.slice a n c)), .slice aq nq cq] w fun e w' => ∃ u, e = .returned u /\ TRs K w (und q (br k x)) u w' := by
 have hB := Bl.refl w
 refine Zaj Tryz.func192 rfl 15 rfl ?_
 show CW _ _ _ _ _ _ _ [(0, .agg (brc vs (.slice a n c))), (1, .slice aq nq cq)] _
 refine Zac <| Zaa <| Zax 2 (brc vs (.slice a n c)) 221 (fun _ => by kernel_rfl) (fun _ => by kernel_rfl) ?_
 intro w1 g2 hn3
 replace hB := hB.go hn3.below
 replace hx := hx.go hn3.below
 replace hq := hq.go hn3.below
 replace hk := hk.go hn3.below
 have hr4 : Rw g2 w1 (brc vs (.slice a n c)) 221 := hn3.row
 refine rp 4 (.nilIface) <| Zad <| Zab <| Zac <| Zac <| Zaa <| rp 5 (.slice aq nq cq) <| rp 6 (.int .i64 nq) <| rv 7 (.bool false) (fun _ => Zag (v := .bool ((nq : Int) == (0 : Int))) (by kernel_rfl) (congrArg Value.bool (beq_eq_false_iff_ne.2 (by omega)))) <| Zad <| Zab <| Zai (fun _ => by kernel_rfl) ?_
 refine Zan <| Zab <| Zac <| Zaa <| rp 10 (.slice aq nq cq) <| rv 11 (.agg (brc vs (.slice a n c))) (fun _ => Zb8 221 _ _ _ _ _ _ rfl (by kernel_rfl) hr4 Tryz.underlying221 rfl (by kernel_rfl)) <| rp 12 (.iface 221 (.agg (brc vs (.slice a n c)))) <| rp 13 (.agg #[.slice aq nq cq, .iface 221 (.agg (brc vs (.slice a n c)))]) <| rp 14 (.iface 226 (.agg #[.slice aq nq cq, .iface 221 (.agg (brc vs (.slice a n c)))])) <| rp 4 (.iface 226 (.agg #[.slice aq nq cq, .iface 221 (.agg (brc vs (.slice a n c)))])) <| Zad <| Zab ?_
 refine Zap ?_
 have e : q ≠ [] := by intro e; have := hq.len; rw [e, List.length_nil] at this; omega
 exact Zae (.iface 226 (.agg #[.slice aq nq cq, .iface 221 (.agg (brc vs (.slice a n c)))])) (fun _ => by kernel_rfl) ⟨_, rfl, (by simp only [und]; rw [if_neg e]; exact ⟨_, _, _, _, rfl, hq, vs, _, _, _, rfl, hk, hx, hn2⟩), hB⟩
theorem Zwn {K : Nat -> Prop} {w : World} {v : Value} {a : Option Addr} {n c : Nat} {q x : List Int} {k : Nat -> Tr} (ht : TA K w (br k x) v) (hq : Sk K w a n c q) : MC "pergola/trie.under" v #[.slice a n c] w (TRs K w (und q (br k x))) := by
 obtain ⟨vs, a1, n1, c1, rfl, h1, h2, h3⟩ := ht
 refine ⟨_, _, _, rfl, Zoz _, ?_⟩
 rcases Nat.eq_zero_or_pos n with h | h
 ·exact Zu3 h1 h2 h3 hq h
 ·exact Zu4 h1 h2 h3 hq h
theorem Zzb (t : Tr) : US t := by
 cases t with
 | no => intro K w v a n c q B hO; exact hO.elim
 | leaf p x =>
  intro K w v a n c q B hO ht hq hl hB hK
  obtain ⟨a1, n1, c1, a2, n2, c2, rfl, h1, h2, h3⟩ := ht
  exact ⟨_, _, _, rfl, Zox _, Zot h1 h2 h3 hq hK (Nat.le_trans hO.2.1 hB) hl⟩
 | ext p t =>
  intro K w v a n c q B hO ht hq hl hB hK
  obtain ⟨a1, n1, c1, u, rfl, h1, h2⟩ := ht
  obtain ⟨Tu, xu, rfl⟩ := h2.iface (fun e => by rw [e] at hO; exact absurd hO.2.2.2.1 (by simp [isBr]))
  exact ⟨_, _, _, rfl, Zoy _, Zo6 h1 h2 hq hK (Nat.le_trans hO.2.2.1 hB) hl⟩
 | br k x =>
  intro K w v a n c q B hO ht hq hl hB hK
  exact Zwn ht hq
end Go.Proofs.YtefhepcplempkaaGreat

/- Slices of bytes: compared, their beginnings, copied, joined. -/
import Derived.Test.YtdkpilgelgjieaaGreatG02
import Derived.Test.YtdkpilgelgjieaaGreatG00
set_option linter.unusedVariables false
set_option maxRecDepth 100000
namespace Go.Proofs.YtdkpilgelgjieaaGreat
open Go.RowKit
theorem Sk.cutFrom {K : Nat -> Prop} {w : World} {a : Option Addr} {n c : Nat} {bs : List Int} (h : Sk K w a n c bs) (f : Nat) (hf : f <= n) :
  ∃ a' n' c', (∀ (v : World) (ρ : Operand -> Value) (o : Oper) (x y : Operand) (i : Int), o.op = .slice 32 x (some y) none none -> ρ x = .slice a n c -> ρ y = .int .i64 i -> i = f -> (execOp ρ o).run Tryz.prog v = .ok (.value (.slice a' n' c')) v) /\ Sk K w a' n' c' (bs.drop f) :=
 ⟨_, _, _, h.run_from f hf, h.from f hf⟩
theorem Sk.cutTo {K : Nat -> Prop} {w : World} {a : Option Addr} {n c : Nat} {bs : List Int} (h : Sk K w a n c bs) (f : Nat) (hf : f <= n) :
  ∃ a' n' c', (∀ (v : World) (ρ : Operand -> Value) (o : Oper) (x y : Operand) (i : Int), o.op = .slice 32 x none (some y) none -> ρ x = .slice a n c -> ρ y = .int .i64 i -> i = f -> (execOp ρ o).run Tryz.prog v = .ok (.value (.slice a' n' c')) v) /\ Sk K w a' n' c' (bs.take f) :=
 ⟨_, _, _, h.run_upto f hf, h.upto f hf⟩
def Rw (g : Nat) (w : World) (cells : Array Value) (T : TypeId) : Prop := w.heap[g]? = some (.cells cells T (0, 0))
theorem Rw.go {g : Nat} {w w' : World} {cells : Array Value} {T : TypeId} (h : Rw g w cells T) (hb : Below w.heap.size w w') : Rw g w' cells T := Below.row hb h
theorem Rw.drew {g : Nat} {w : World} {cells : Array Value} {T : TypeId} (h : Rw g w cells T) : Rw g w.drew cells T := h
def Bl (w0 w : World) : Prop := Below w0.heap.size w0 w
theorem Bl.refl (w : World) : Bl w w := Below.refl _ _
theorem Bl.go {w0 w w' : World} (h : Bl w0 w) (hb : Below w.heap.size w w') : Bl w0 w' := h.trans (hb.mono h.size)
theorem Bl.drew {w0 w : World} (h : Bl w0 w) : Bl w0 w.drew := h.go (Below.refl _ _).drew
theorem Bl.size {w0 w : World} (h : Bl w0 w) : w0.heap.size <= w.heap.size := Below.size h
section
variable {r : Option Nat} {m : Nat} {P : Program} {ds : List Deferred} {n : Nat} {Q : Exit → Act → World → Prop} {env : Env} {w : World} {ops : Array Oper} {l : List Oper} {o : Oper} {S : World → Prop} {fuel : Nat} {listed : Array Bool} {rs : List Nat}
theorem Zdf (d : Nat) (cells : Array Value) (T : TypeId) (k : Nat) (hc : ∀ fb, chk n ops env fb o d = true) (hr : ∀ fb, (execOp (ev env fb) o).run P w = .ok (.value (.slice (some ⟨w.heap.size, 0, none⟩) k k)) (w.alloc (.cells cells T)))
  (h : ∀ w' g, New w w' g cells T -> RW r m P ds n Q ops l ((d, .slice (some ⟨g, 0, none⟩) k k) :: env) w') : RW r m P ds n Q ops (o :: l) env w := rw_v d _ hc hr (h _ _ ⟨rfl, rfl⟩)
theorem Zgm (i d : Nat) (cells : Array Value) (T : TypeId) (k : Nat) (ho : ops[i]? = some o) (hc : ∀ fb, chk n ops env fb o d = true) (hr : ∀ fb, (execOp (ev env fb) o).run P w = .ok (.value (.slice (some ⟨w.heap.size, 0, none⟩) k k)) (w.alloc (.cells cells T))) (hS : ∀ w' g, New w w' g cells T -> S w')
  (h : ∀ w' g, New w w' g cells T -> DW P ds n Q ops S fuel (listed.setIfInBounds i true) ((d, .slice (some ⟨g, 0, none⟩) k k) :: env) w') (hs : AR P ds n Q ops S fuel listed env w rs) : AR P ds n Q ops S fuel listed env w (i :: rs) :=
 ar_v i d _ ho hc hr (hS _ _ ⟨rfl, rfl⟩) (h _ _ ⟨rfl, rfl⟩) hs
end
theorem Zwi {K : Nat -> Prop} {w w' : World} {g : Nat} {x : Int} (hx : 0 <= x /\ x < 256) (h : New w w' g #[.int .u8 x] 5) (hK : ∀ b, w.heap.size <= b -> K b) : Sk K w' (some ⟨g, 0, none⟩) 1 1 [x] := by
 refine ⟨⟨.inr ⟨g, 0, rfl, rfl, by omega, by omega, by unfold maxLen; omega, fun j hj => ?_⟩, (fun e => by cases e), rfl, fun y hy => by rw [List.mem_singleton.1 hy]; exact hx⟩, fun y hy _ => ?_⟩
 ·have : j = 0 := by simpa using hj
  subst this
  rw [cell_of_row _ _ _ _ _ _ h.row]; rfl
 ·cases hy
  exact hK _ (by rw [h.hg]; exact Nat.le_refl _)
theorem Zik {w w' : World} {v u r : Value} {t1 t2 : TypeId} {ρ : Operand -> Value} {o : Oper} (hr : ∀ ty, (Builtin.append_ #[t1, t2] ty #[v, u]).run Tryz.prog w = .ok r w') (x y : Operand) (ho : o.op = .call { callee := .builtin .append, args := #[x, y], argTypes := #[t1, t2] }) (hx : ρ x = v) (hy : ρ y = u) : (execOp ρ o).run Tryz.prog w = .ok (.value r) w' := by
 unfold execOp
 simp only [ho, resolve, invoke, builtin, Sem.run_bind, Sem.run_pure, Result.andThen_ok, List.map_toArray, List.map_cons, List.map_nil, hx, hy, hr]
theorem Sk.old {K : Nat -> Prop} {w : World} {a : Option Addr} {n c : Nat} {bs : List Int} (h : Sk K w a n c bs) {x : Addr} (hx : a = some x) (hn : 0 < n) : x.block < w.heap.size := by
 rcases h.ag.i with ⟨h1, h2⟩ | ⟨gb, off, h1, h2, h3, h4, h5, h7⟩
 ·omega
 ·rw [hx] at h1
  cases h1
  have := block_lt_of_cell (h7 0 (by omega))
  exact this
end Go.Proofs.YtdkpilgelgjieaaGreat
namespace Go.Proofs.YtdkpilgelgjieaaGreat.Ni
open Go.RowKit
set_option maxHeartbeats 1000000 in
theorem common_any (a1 a2 : Option Addr) (n1 c1 n2 c2 : Nat) (p q : List Int) (w : World) (h1 : Ag w a1 n1 c1 p) (h2 : Ag w a2 n2 c2 q) (hn1 : n1 <= 140737488355328) (hn2 : n2 <= 140737488355328) :
  Calls Tryz.prog 29 #[.slice a1 n1 c1, .slice a2 n2 c2] w fun e w' => e = .returned (.int .i64 (com p q : Nat)) /\ Below w.heap.size w w' := by
 have HL1 := Hid.mk h1.l
 have HL2 := Hid.mk h2.l
 have HC1 := Hid.mk (fun h => ag_head h1 h)
 have HC2 := Hid.mk (fun h => ag_head h2 h)
 clear h1 h2
 obtain ⟨res, hres⟩ : ∃ r, com p q = r := ⟨_, rfl⟩
 rw [hres]
 have HRES := Hid.mk hres
 clear hres
 go_enter Tryz.func29, Tryz.ntmps29
 go_wp2_with fail
 go_loopw [5] (fun i v => ∃ j : Nat, j <= n1 /\ j <= n2 /\ i = .int .i64 j /\ p.take j = q.take j /\ Below w.heap.size w v) (fun i _ => n1 - (intOf i).toNat)
 case atStart => exact ⟨0, by omega, by omega, rfl, rfl, Below.refl _ _⟩
 case round =>
  obtain ⟨j, hj1, hj2, rfl, htk, hb⟩ := hrel
  have HTK := Hid.mk htk
  have HBW := Hid.mk hb
  clear htk hb
  have HD : Hid ((j = p.length \/ j = q.length \/ p.getD j 0 ≠ q.getD j 0) -> res = j) := Hid.mk (fun h => HRES.out.symm.trans (Zlc p q j (by have := HL1.out; omega) (by have := HL2.out; omega) HTK.out h))
  by_cases hlt1 : j < n1
  case neg =>
   have hji : ¬ (j : Int) < n1 := by omega
   have e := HD.out (.inl (by have := HL1.out; omega))
   subst e
   go_wp2_with fail
   go_region
   all_goals
    go_wp2_with fail
    go_ret
    exact ⟨rfl, HBW.out.drew⟩
  have hji1 : (j : Int) < n1 := by omega
  by_cases hlt2 : j < n2
  case neg =>
   have hji : ¬ (j : Int) < n2 := by omega
   have e := HD.out (.inr (.inl (by have := HL2.out; omega)))
   subst e
   go_wp2_with fail
   go_region
   all_goals
    go_wp2_with fail
    go_ret
    exact ⟨rfl, HBW.out.drew⟩
  have hji2 : (j : Int) < n2 := by omega
  obtain ⟨g1, o1, rfl, hnc1, hcm1, hcs1⟩ := HC1.out (by omega)
  obtain ⟨g2, o2, rfl, hnc2, hcm2, hcs2⟩ := HC2.out (by omega)
  unfold maxLen at hcm1 hcm2
  have hcell1 := (HBW.out.cell (p := ⟨g1, o1 + j, none⟩) (block_lt_of_cell (hcs1 j hlt1))).trans (hcs1 j hlt1)
  have hcell2 := (HBW.out.cell (p := ⟨g2, o2 + j, none⟩) (block_lt_of_cell (hcs2 j hlt2))).trans (hcs2 j hlt2)
  have HT1 := Hid.mk (take_snoc (b := p) (i := j) (by have := HL1.out; omega))
  have HT2 := Hid.mk (take_snoc (b := q) (i := j) (by have := HL2.out; omega))
  generalize p.getD j 0 = x at *
  generalize q.getD j 0 = y at *
  clear hcs1 hcs2
  by_cases hxy : x = y
  ·subst hxy
   have hq : (x == x) = true := by simp
   go_wp2_with fail
   go_region
   all_goals
    go_wp2_with fail
    exact ⟨⟨j + 1, by omega, by omega, by simp, by rw [HT1.out, HT2.out, HTK.out], HBW.out.drew⟩, by simp [intOf]; omega⟩
  ·have e := HD.out (.inr (.inr hxy))
   subst e
   have hq : (x == y) = false := by simpa using hxy
   clear hxy
   go_wp2_with fail
   go_region
   all_goals
    go_wp2_with fail
    go_ret
    exact ⟨rfl, HBW.out.drew⟩
end Go.Proofs.YtdkpilgelgjieaaGreat.Ni
namespace Go.Proofs.YtdkpilgelgjieaaGreat
open Go.RowKit
open Tr
theorem Zr7 {P : Program} {ρ : Operand -> Value} {w : World} {o : Oper} {kd : IntKind} (T : TypeId) (x y : Operand) (g off j len sz : Nat) (E : TypeId) (ho : o.op = .indexAddr T x y) (hx : ρ x = .pointer (some ⟨g, off, none⟩)) (hy : ρ y = .int kd j) (hj : j < len) (h2 : 1 < len) (hu : P.underlying T = some (.array len E)) (hi : (P.info? E).map (·.size) = some sz) :
  (execOp ρ o).run P w = .ok (.value (.pointer (some ⟨g, off + j * sz, none⟩))) w := by
 have hs : (sizeOf E).run P w = .ok sz w := by
  cases hq : P.info? E with
  | none => simp [hq] at hi
  | some z => simp [hq] at hi; simp [sizeOf, typeInfo, hq, hi]
 unfold execOp
 rw [ho]
 simp only [hx, hy]
 have he : (if j * sz = 0 then (⟨g, off, none⟩ : Addr) else ⟨g, off + j * sz, none⟩) = ⟨g, off + j * sz, none⟩ := by split <;> simp_all
 simp [Instr.indexAt, Instr.sureAddr, asIntOf, run_underlying hu, hs, hj, Result.andThen, Addr.add, he]
theorem Sk.head {K : Nat -> Prop} {w : World} {a : Option Addr} {n c : Nat} {i : Int} {r : List Int} (h : Sk K w a n c (i :: r)) : ∃ g o, a = some ⟨g, o, none⟩ /\ w.cell? ⟨g, o + 0 * 1, none⟩ = some (.int .u8 i) /\ 0 < n := by
 have hl := h.len
 rw [List.length_cons] at hl
 rcases h.ag.i with ⟨h1, h2⟩ | ⟨gb, off, h1, h2, h3, h4, h5, h7⟩
 ·omega
 ·exact ⟨gb, off, h1, by rw [show off + 0 * 1 = off + 0 from by omega, h7 0 (by simp)]; rfl, h3⟩
def TK (K : Nat -> Prop) (w : World) (k : Nat -> Tr) (vs : Nat -> Value) : Prop := ∀ i, i < 16 -> TA K w (k i) (vs i)
structure Sx (g : Nat) (cells : Array Value) (T : TypeId) (p : Addr) (x : Value) (w : World) : Prop where
 r : Rw g w cells T
 c : w.cell? p = some x
def RS (K : Nat -> Prop) (w : World) (x : List Int) : Value -> World -> Prop := fun u w' => (∃ a n c, u = .slice a n c /\ Sk K w' a n c x) /\ Bl w w'
def TRs (K : Nat -> Prop) (w : World) (t : Tr) : Value -> World -> Prop := fun u w' => TA K w' t u /\ Bl w w'
def FS (t : Tr) : Prop := ∀ {K : Nat -> Prop} {w : World} {v : Value} {a : Option Addr} {n c : Nat} {q : List Int} {B : Nat}, Ok B t -> TA K w t v -> Sk K w a n c q -> Nb q -> MC "pergola/trie.find" v #[.slice a n c] w (RS K w (Tr.get t q))
end Go.Proofs.YtdkpilgelgjieaaGreat
namespace Go.Proofs.YtdkpilgelgjieaaGreat
open Go.RowKit
open Tr
theorem Sk.mono {K K' : Nat -> Prop} {w : World} {a : Option Addr} {n c : Nat} {bs : List Int} (h : Sk K w a n c bs) (hK : ∀ b, K b -> K' b) : Sk K' w a n c bs := ⟨h.ag, fun x hx hn => hK _ (h.k x hx hn)⟩
def US (t : Tr) : Prop := ∀ {K : Nat -> Prop} {w : World} {v : Value} {a : Option Addr} {n c : Nat} {q : List Int} {B : Nat}, Ok B t -> TA K w t v -> Sk K w a n c q -> q.length <= 64 -> B <= 64 -> (∀ b, w.heap.size <= b -> K b) -> MC "pergola/trie.under" v #[.slice a n c] w (TRs K w (und q t))
end Go.Proofs.YtdkpilgelgjieaaGreat

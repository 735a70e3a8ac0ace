/- Operations for the walk by environments: new blocks, stores, loads, numbers. -/
import Derived.Test.YtalhnnjpjaeakabGreatG00
import Derived.Deep.MidRow
import Derived.RangeFuncNested
import Derived.Maps.RangeRun
import Derived.Deep.WholeRow
import Derived.OrdersIn
namespace Go.Proofs.YtalhnnjpjaeakabGreat
open Go.RowKit
set_option linter.unusedVariables false
set_option maxRecDepth 100000
/-- A new block. -/
structure New (w w' : World) (g : Nat) (cells : Array Value) (T : TypeId) : Prop where
  hg : g = w.heap.size
  hw : w' = w.alloc (.cells cells T)
section
variable {w w' : World} {g : Nat} {cells : Array Value} {T : TypeId}
theorem New.below (h : New w w' g cells T) : Below w.heap.size w w' := by rw [h.hw]; exact (Below.refl _ _).alloc (Nat.le_refl _) _
theorem New.row (h : New w w' g cells T) : w'.heap[g]? = some (.cells cells T (0, 0)) := by rw [h.hw, h.hg]; exact heap_alloc_new _ _
theorem New.size (h : New w w' g cells T) : w'.heap.size = g + 1 := by rw [h.hw, h.hg]; simp
end
/-- A block is written over. -/
structure Put (w w' : World) (g : Nat) (cells : Array Value) : Prop where
  hw : w' = w.setRow g cells
section
variable {w w' : World} {g : Nat} {cells : Array Value}
theorem Put.row (h : Put w w' g cells) {old : Array Value} {T : TypeId} {fr : Nat × Nat} (ho : w.heap[g]? = some (.cells old T fr)) : w'.heap[g]? = some (.cells cells T fr) := by rw [h.hw]; exact setRow_heap _ _ _ _ _ _ ho
theorem Put.touch (h : Put w w' g cells) : Touch g w w' := by rw [h.hw]; exact Touch.setRow _ _ _
theorem Put.below (h : Put w w' g cells) {N : Nat} {w0 : World} (hb : Below N w0 w) (hg : N ≤ g) (hs : N ≤ w.heap.size) : Below N w0 w' := h.touch.below hb hg hs
end
/-- A cell is written over. -/
structure Set1 (w w' : World) (g o : Nat) (v : Value) : Prop where
  hw : w' = w.setCell ⟨g, o, none⟩ v
section
variable {w w' : World} {g o : Nat} {v : Value}
theorem Set1.touch (h : Set1 w w' g o v) : Touch g w w' := by rw [h.hw]; exact Touch.setCell _ _ _ _
theorem Set1.other (h : Set1 w w' g o v) {k : Nat} (hk : k ≠ g) : w'.heap[k]? = w.heap[k]? := by rw [h.hw]; exact heap_setCell_other _ _ _ _ hk
end
section
variable {r : Option Nat} {m : Nat} {P : Program} {ds : List Deferred} {n : Nat} {Q : Exit → Act → World → Prop} {env : Env} {w : World} {ops : Array Oper} {l : List Oper} {o : Oper} {S : World → Prop} {fuel : Nat} {listed : Array Bool} {rs : List Nat}
theorem rw_new (d : Nat) (cells : Array Value) (T : TypeId) (hc : ∀ fb, chk n ops env fb o d = true) (hr : ∀ fb, (execOp (ev env fb) o).run P w = .ok (.value (.pointer (some ⟨w.heap.size, 0, none⟩))) (w.alloc (.cells cells T)))
    (h : ∀ w' g, New w w' g cells T → RW r m P ds n Q ops l ((d, .pointer (some ⟨g, 0, none⟩)) :: env) w') : RW r m P ds n Q ops (o :: l) env w := rw_v d _ hc hr (h _ _ ⟨rfl, rfl⟩)
theorem rw_put (g : Nat) (cells : Array Value) (hc : ∀ fb, chk0 ops env fb o = true) (hr : ∀ fb, (execOp (ev env fb) o).run P w = .ok .skip (w.setRow g cells)) (h : ∀ w', Put w w' g cells → RW r m P ds n Q ops l env w') : RW r m P ds n Q ops (o :: l) env w := rw_s hc hr (h _ ⟨rfl⟩)
theorem rw_set1 (g k : Nat) (v : Value) (hc : ∀ fb, chk0 ops env fb o = true) (hr : ∀ fb, (execOp (ev env fb) o).run P w = .ok .skip (w.setCell ⟨g, k, none⟩ v)) (h : ∀ w', Set1 w w' g k v → RW r m P ds n Q ops l env w') : RW r m P ds n Q ops (o :: l) env w := rw_s hc hr (h _ ⟨rfl⟩)
theorem ar_set1 (i g k : Nat) (v : Value) (ho : ops[i]? = some o) (hc : ∀ fb, chk0 ops env fb o = true) (hr : ∀ fb, (execOp (ev env fb) o).run P w = .ok .skip (w.setCell ⟨g, k, none⟩ v)) (hS : ∀ w', Set1 w w' g k v → S w')
    (h : ∀ w', Set1 w w' g k v → DW P ds n Q ops S fuel (listed.setIfInBounds i true) env w') (hs : AR P ds n Q ops S fuel listed env w rs) : AR P ds n Q ops S fuel listed env w (i :: rs) :=
  ar_s i ho hc hr (hS _ ⟨rfl⟩) (h _ ⟨rfl⟩) hs
end
section
variable {P : Program} {ρ : Operand → Value} {w : World} {o : Oper}
/-- A whole row out of its block. -/
theorem ol_row (T : TypeId) (x : Operand) (g : Nat) (cs : Array Value) (t : TypeId) (fr : Nat × Nat) (d : TypeDesc) (ho : o.op = .load T x) (hx : ρ x = .pointer (some ⟨g, 0, none⟩)) (hg : w.heap[g]? = some (.cells cs t fr)) (hu : P.underlying T = some d) (hd : (match d with | .struct _ | .array _ _ => true | _ => false) = true) (hi : (P.info? T).map (·.size) = some cs.size) :
    (execOp ρ o).run P w = .ok (.value (.agg cs)) w := by
  unfold execOp
  simp only [ho, hx, Instr.loadAt, Instr.sureAddr, Sem.run_bind, Sem.run_pure, Result.andThen_ok, run_loadVar_row w g t T cs fr d hg hu hd hi]
/-- A whole row out of the middle of a block. -/
theorem ol_mid (T : TypeId) (x : Operand) (b off : Nat) (cs : List Value) (d : TypeDesc) (ho : o.op = .load T x) (hx : ρ x = .pointer (some ⟨b, off, none⟩)) (hc : w.rangeAt b off cs) (hu : P.underlying T = some d) (hd : d.isRow = true) (hi : (P.info? T).map (·.size) = some cs.length) :
    (execOp ρ o).run P w = .ok (.value (.agg cs.toArray)) w := by
  unfold execOp
  simp only [ho, hx, Instr.loadAt, Instr.sureAddr, Sem.run_bind, Sem.run_pure, Result.andThen_ok, run_loadVar_mid w b off T cs d hc hu hd hi]
/-- One cell. -/
theorem ol_cell (T : TypeId) (x : Operand) (p : Addr) (v : Value) (d : TypeDesc) (ho : o.op = .load T x) (hx : ρ x = .pointer (some p)) (hc : w.cell? p = some v) (hu : P.underlying T = some d) (hd : (match d with | .struct _ | .array _ _ => true | _ => false) = false) :
    (execOp ρ o).run P w = .ok (.value v) w := by
  have ha : (isAgg T).run P w = .ok false w := by
    cases d <;> simp_all [isAgg, run_underlying hu]
  unfold execOp
  simp only [ho, hx, Instr.loadAt, Instr.sureAddr, Sem.run_bind, Sem.run_pure, Result.andThen_ok, loadVar, ha, Bool.false_eq_true, if_false]
  simp [hc]
theorem ol_store (T : TypeId) (x y : Operand) (g : Nat) (cells old : Array Value) (t : TypeId) (ho : o.op = .store T x y) (hx : ρ x = .pointer (some ⟨g, 0, none⟩)) (hy : ρ y = .agg cells) (hg : w.heap[g]? = some (.cells old t (0, 0))) (hi : (P.info? T).map (·.size) = some cells.size) (hold : old.size = cells.size) (h1 : cells.all (·.oneCell') = true) :
    (execOp ρ o).run P w = .ok .skip (w.setRow g cells) := by
  unfold execOp
  rw [ho]
  simp only [hx, hy, Instr.storeAt, Instr.sureAddr, Sem.run_bind, Sem.run_pure, Result.andThen_ok, run_storeVar_row w g t T old cells hg hi hold h1]
/-- An element's place. -/
theorem ol_index (T : TypeId) (x y : Operand) (g off j mm c sz : Nat) (E : TypeId) (ho : o.op = .indexAddr T x y) (hx : ρ x = .slice (some ⟨g, off, none⟩) mm c) (hy : ρ y = .int .i64 j) (hj : j < mm) (hu : P.underlying T = some (.slice E)) (hi : (P.info? E).map (·.size) = some sz) :
    (execOp ρ o).run P w = .ok (.value (.pointer (some ⟨g, off + j * sz, none⟩))) w := by
  have hs : (sizeOf E).run P w = .ok sz w := by
    cases hq : P.info? E with
    | none => simp [hq] at hi
    | some z => simp [hq] at hi; simp [sizeOf, typeInfo, hq, hi]
  unfold execOp
  rw [ho]
  simp only [hx, hy]
  have he : (if j * sz = 0 then (⟨g, off, none⟩ : Addr) else ⟨g, off + j * sz, none⟩) = ⟨g, off + j * sz, none⟩ := by split <;> simp_all
  simp [Instr.indexAt, asIntOf, run_underlying hu, hs, hj, Result.andThen, Addr.add, he]
/-- Texts compared. -/
theorem ol_eqs (T : TypeId) (x y : Operand) (r : TypeId) (p q : ByteArray) {b : Bool} (ho : o.op = .binOp .eql T x y r) (hx : ρ x = .string p) (hy : ρ y = .string q) (hb : (p.toList == q.toList) = b) : (execOp ρ o).run P w = .ok (.value (.bool b)) w := by
  subst hb
  unfold execOp
  rw [ho]
  simp only [hx, hy]
  go_simp
theorem ol_nes (T : TypeId) (x y : Operand) (r : TypeId) (p q : ByteArray) {b : Bool} (ho : o.op = .binOp .neq T x y r) (hx : ρ x = .string p) (hy : ρ y = .string q) (hb : (!(p.toList == q.toList)) = b) : (execOp ρ o).run P w = .ok (.value (.bool b)) w := by
  subst hb
  unfold execOp
  rw [ho]
  simp only [hx, hy]
  go_simp
theorem ol_eqb (T : TypeId) (x y : Operand) (r : TypeId) (p q : Bool) {b : Bool} (ho : o.op = .binOp .eql T x y r) (hx : ρ x = .bool p) (hy : ρ y = .bool q) (hb : (p == q) = b) (hu : P.underlying T = some .bool := by rfl) : (execOp ρ o).run P w = .ok (.value (.bool b)) w := by
  subst hb
  unfold execOp
  rw [ho]
  simp only [hx, hy]
  go_simp
theorem ol_conv {v v' : Value} {w' : World} (h : (execOp ρ o).run P w = .ok (.value v) w') (e : v = v') : (execOp ρ o).run P w = .ok (.value v') w' := by rw [← e]; exact h
end
theorem wrap64 {x : Int} (h1 : -9223372036854775808 ≤ x) (h2 : x ≤ 9223372036854775807) : IntKind.i64.wrap x = x := by unfold IntKind.wrap; simp [IntKind.bits, IntKind.signed]; omega
end Go.Proofs.YtalhnnjpjaeakabGreat
/- Ranges over functions, yields, walks over maps, for the walk by environments. -/
namespace Go.Proofs.YtalhnnjpjaeakabGreat
open Go.RowKit
open Go.ChangeMaps (setBlock)
set_option linter.unusedVariables false
set_option maxRecDepth 100000
section
variable {r : Option Nat} {m : Nat} {P : Program} {ds : List Deferred} {n : Nat} {Q : Exit → Act → World → Prop} {env : Env} {w w' : World} {ops : Array Oper} {l : List Oper} {o : Oper}
theorem nw_own {α : Type} {B : Nat} {Kp : World → World → Prop} {I : List α → World → Prop} {Ix : Code → List α → World → Prop} {xs : List α} {W : World} (h1 : KeepsFrom B W w) (h2 : Kp W w) (h3 : I xs w) : NW ds n (ownPostG B Kp I Ix xs W) .normal env w := fun a ha => ⟨h1, h2, h3⟩
theorem nw_ret_marks {fn : Func} {R : Ending → World → Prop} {D : Nat} (hK : w.heap[D]? = some (.deferred (some []))) (v : Value) (hr : ∀ fb, (resF (lkF env fb) fn.results).run P (w.putObj D (.deferred none)) = .ok v (w.putObj D (.deferred none))) (hR : R (.returned v) (w.putObj D (.deferred none))) :
    NW [{ target := .collected D, args := #[] }] n (bodyPostM Fence.wide m P fn R) .ret env w := fun a ha => by
  show LeavesInM Fence.wide m P fn a.tmps R a.defers .returning w
  rw [ha.df]
  refine ⟨by simp, .inl ⟨_, _, rfl, run_takeDeferred hK, ?_⟩⟩
  refine ⟨v, ?_, hR⟩
  rw [results_resF, show (fun t => a.tmps.getD t undef) = lkF env (fun t => a.tmps.getD t undef) from funext ha.get]
  exact hr _
end
section
variable {P : Program} {ρ : Operand → Value} {w w' : World} {o : Oper}
end
/-- A new block that is filled at once. -/
theorem New.put {w w1 w2 : World} {g : Nat} {z cells : Array Value} {T : TypeId} (h : New w w1 g z T) (hp : Put w1 w2 g cells) : New w w2 g cells T := ⟨h.hg, by rw [hp.hw, h.hw, h.hg]; exact World.setRow_alloc_new _ _ _ _⟩
end Go.Proofs.YtalhnnjpjaeakabGreat
/- A region that draws its order and in which a loop's round is called. -/
namespace Go.Proofs.YtalhnnjpjaeakabGreat
open Go.RowKit
set_option linter.unusedVariables false
set_option maxRecDepth 100000
def DI (m : Nat) (P : Program) (ds : List Deferred) (n : Nat) (Q : Exit → Act → World → Prop) (ops : Array Oper) (fuel : Nat) (listed : Array Bool) (env : Env) (w : World) : Prop := ∀ a, Frm ds n env a → wpAnyIn Fence.wide m P .any ops Q fuel listed a w
def AI (m : Nat) (P : Program) (ds : List Deferred) (n : Nat) (Q : Exit → Act → World → Prop) (ops : Array Oper) (fuel : Nat) (listed : Array Bool) (env : Env) (w : World) (rs : List Nat) : Prop := ∀ a, Frm ds n env a → AllReadyIn Fence.wide m P .any ops Q fuel listed a w rs
section
variable {m : Nat} {P : Program} {ds : List Deferred} {n : Nat} {Q : Exit → Act → World → Prop} {env : Env} {w w' : World} {ops : Array Oper} {o : Oper} {fuel : Nat} {listed : Array Bool} {rs : List Nat}
theorem di_draw {id : Nat} (hm : P.follows .mixedOrders = true) (h : DI m P ds n Q ops ops.size (Array.replicate ops.size false) env w.drew) : CW none m P ds n Q (.region id ops true) env w := fun a ha => wpIn_region_any (F := Fence.wide) hm (h a ha)
theorem di_done (hr : Region.ready .any ops listed = []) (h : NW ds n Q .normal env w) : DI m P ds n Q ops fuel listed env w := fun a ha => wpAnyIn_done hr (h a ha) fuel
theorem di_ready (rs : List Nat) (hr : Region.ready .any ops listed = rs) (hne : rs ≠ []) (h : AI m P ds n Q ops fuel listed env w rs) : DI m P ds n Q ops (fuel + 1) listed env w := fun a ha => wpAnyIn_ready hr hne (h a ha)
theorem di_take (i d : Nat) (v : Value) (ho : ops[i]? = some o) (hk : tkOk ops listed i = true) (hQ : ∀ c a w, Q (.panic c) (a.put (some d) v) w → Q (.panic c) a w) (hc : ∀ fb, chk n ops env fb o d = true)
    (hr : ∀ w fb, (execOp (ev env fb) o).run P w = .ok (.value v) w) (hb : ∀ w fb, o.about P w (ev env fb) = none) (h : DI m P ds n Q ops fuel (listed.setIfInBounds i true) ((d, v) :: env) w) : DI m P ds n Q ops (fuel + 1) listed env w := fun a ha => by
  obtain ⟨h1, h2, h3, _⟩ := chk_spec (hc (fun t => a.tmps.getD t undef))
  unfold tkOk at hk
  simp only [Bool.and_eq_true] at hk
  refine wpAnyIn_take (v := v) rfl ho hk.1.1 hk.1.2 hk.2 (by rw [h1]; exact hQ) ⟨Or.inl ⟨by rw [ha.want]; exact h3, fun w => by rw [ha.ev]; exact hr w _⟩, fun w => by rw [ha.ev]; exact hb w _⟩ ?_
  rw [h1]
  exact h _ (fr_put ha h2 v)
theorem ai_nil : AI m P ds n Q ops fuel listed env w [] := fun a ha => AllReadyIn.nil
theorem ai_v (i d : Nat) (v : Value) (ho : ops[i]? = some o) (hc : ∀ fb, chk n ops env fb o d = true) (hr : ∀ fb, (execOp (ev env fb) o).run P w = .ok (.value v) w')
    (h : DI m P ds n Q ops fuel (listed.setIfInBounds i true) ((d, v) :: env) w') (hs : AI m P ds n Q ops fuel listed env w rs) : AI m P ds n Q ops fuel listed env w (i :: rs) := fun a ha => by
  obtain ⟨h1, h2, h3, hnd⟩ := chk_spec (hc (fun t => a.tmps.getD t undef))
  refine AllReadyIn.cons ho (fun K hK => ?_) (hs a ha)
  rw [ha.want, if_pos h3]
  refine ⟨fun f _ => trivial, ?_⟩
  rw [Oper.semAt_eq _ _ _ hnd, ha.ev, hr, Oper.uponIn_value, h1]
  exact hK _ _ (h _ (fr_put ha h2 v))
theorem ai_call (i d : Nat) (f : FuncId) (args : Array Value) (ho : ops[i]? = some o) (hc : ∀ fb, chk n ops env fb o d = true) (hr : ∀ fb, (execOp (ev env fb) o).run P w = .ok (.enter f args) w) {R : Value → World → Prop}
    (hcall : Calls P f args w fun e w' => ∃ v, e = .returned v ∧ R v w') (h : ∀ v w', R v w' → DI m P ds n Q ops fuel (listed.setIfInBounds i true) ((d, v) :: env) w')
    (hs : AI m P ds n Q ops fuel listed env w rs) : AI m P ds n Q ops fuel listed env w (i :: rs) := fun a ha => by
  obtain ⟨h1, h2, h3, hnd⟩ := chk_spec (hc (fun t => a.tmps.getD t undef))
  refine AllReadyIn.cons ho (fun K hK => ?_) (hs a ha)
  rw [ha.want, if_pos h3]
  refine ⟨fun f _ => trivial, ?_⟩
  rw [Oper.semAt_eq _ _ _ hnd, ha.ev, hr, Oper.uponIn_enter]
  refine ⟨fun h => absurd h Bool.false_ne_true, ?_⟩
  refine CallsIn.mono' (F := Fence.wide) (callsIn_wide.2 hcall) ?_
  rintro e w' ⟨v, rfl, hR⟩
  rw [h1]
  exact hK _ _ (h v w' hR _ (fr_put ha h2 v))
/-- No depth is asked: the figures are all one. -/
theorem yield_any {m m' lp : Nat} {args : Array Value} {W : World} {R : Ending → World → Prop} (h : YieldAt Fence.wide m P lp args W R) : YieldAt Fence.wide m' P lp args W R := by
  obtain ⟨fn, tmps, assign, body, hy, hR⟩ := h
  exact ⟨fn, tmps, assign, body, hy, hR.1, fun c cs _ => hR.2 c cs (room_wide _)⟩
theorem ai_yield (i d : Nat) (lp : Nat) (args : Array Value) (ho : ops[i]? = some o) (hc : ∀ fb, chk n ops env fb o d = true) (hr : ∀ fb, (execOp (ev env fb) o).run P w = (Instr.yield lp args).run P w) {R : Ending → World → Prop}
    (hY : YieldAt Fence.wide 0 P lp args w R) (h : ∀ e w', R e w' → ∃ v, e = .returned v ∧ DI m P ds n Q ops fuel (listed.setIfInBounds i true) ((d, v) :: env) w')
    (hs : AI m P ds n Q ops fuel listed env w rs) : AI m P ds n Q ops fuel listed env w (i :: rs) := fun a ha => by
  obtain ⟨h1, h2, h3, hnd⟩ := chk_spec (hc (fun t => a.tmps.getD t undef))
  obtain ⟨fn, tmps, assign, body, hy, hR⟩ := yield_any (m' := m - 1) hY
  refine AllReadyIn.cons ho (fun K hK => ?_) (hs a ha)
  rw [ha.want, if_pos h3]
  refine ⟨fun f _ => trivial, ?_⟩
  rw [Oper.semAt_eq _ _ _ hnd, ha.ev, hr, hy, Oper.uponIn_round]
  refine ⟨fun h => absurd h Bool.false_ne_true, ?_⟩
  refine RoundIn.mono (F := Fence.wide) hR ?_
  intro e w' hq
  obtain ⟨v, rfl, hw⟩ := h e w' hq
  show K (a.put o.dst v) w'
  rw [h1]
  exact hK _ _ (hw _ (fr_put ha h2 v))
end
end Go.Proofs.YtalhnnjpjaeakabGreat

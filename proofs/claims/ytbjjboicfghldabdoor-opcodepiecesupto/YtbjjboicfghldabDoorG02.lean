/- Operations for the walk by environments: new blocks, stores, loads, numbers. -/
import Derived.Test.YtbjjboicfghldabDoorG00
import Derived.Test.YtbjjboicfghldabDoorG01
import Derived.Deep.MidRow
namespace Go.Proofs.YtbjjboicfghldabDoor
open Go.RowKit
set_option linter.unusedVariables false
set_option maxRecDepth 100000
/-- A new block. -/
structure New (w w' : World) (g : Nat) (cells : Array Value) (T : TypeId) : Prop where
  hg : g = w.heap.size
  hw : w' = w.alloc (.cells cells T)
section
variable {w w' : World} {g : Nat} {cells : Array Value} {T : TypeId}
theorem New.below (h : New w w' g cells T) : Below w.heap.size w w' := by rw [h.hw]; exact (Below.refl _ _).alloc (Nat.le_refl _) _
theorem New.row (h : New w w' g cells T) : w'.heap[g]? = some (.cells cells T (0, 0)) := by rw [h.hw, h.hg]; exact heap_alloc_new _ _
theorem New.size (h : New w w' g cells T) : w'.heap.size = g + 1 := by rw [h.hw, h.hg]; simp
theorem New.size0 (h : New w w' g cells T) : g = w.heap.size := h.hg
end
/-- A block is written over. -/
structure Put (w w' : World) (g : Nat) (cells : Array Value) : Prop where
  hw : w' = w.setRow g cells
section
variable {w w' : World} {g : Nat} {cells : Array Value}
theorem Put.other (h : Put w w' g cells) {k : Nat} (hk : k ≠ g) : w'.heap[k]? = w.heap[k]? := by rw [h.hw]; exact setRow_other _ _ _ _ hk
theorem Put.row (h : Put w w' g cells) {old : Array Value} {T : TypeId} {fr : Nat × Nat} (ho : w.heap[g]? = some (.cells old T fr)) : w'.heap[g]? = some (.cells cells T fr) := by rw [h.hw]; exact setRow_heap _ _ _ _ _ _ ho
theorem Put.size (h : Put w w' g cells) : w'.heap.size = w.heap.size := by rw [h.hw]; simp
theorem Put.touch (h : Put w w' g cells) : Touch g w w' := by rw [h.hw]; exact Touch.setRow _ _ _
theorem Put.below (h : Put w w' g cells) {N : Nat} {w0 : World} (hb : Below N w0 w) (hg : N ≤ g) (hs : N ≤ w.heap.size) : Below N w0 w' := h.touch.below hb hg hs
end
/-- A cell is written over. -/
structure Set1 (w w' : World) (g o : Nat) (v : Value) : Prop where
  hw : w' = w.setCell ⟨g, o, none⟩ v
section
variable {w w' : World} {g o : Nat} {v : Value}
theorem Set1.touch (h : Set1 w w' g o v) : Touch g w w' := by rw [h.hw]; exact Touch.setCell _ _ _ _
theorem Set1.other (h : Set1 w w' g o v) {k : Nat} (hk : k ≠ g) : w'.heap[k]? = w.heap[k]? := by rw [h.hw]; exact heap_setCell_other _ _ _ _ hk
theorem Set1.size (h : Set1 w w' g o v) : w'.heap.size = w.heap.size := by rw [h.hw]; simp
end
section
variable {r : Option Nat} {m : Nat} {P : Program} {ds : List Deferred} {n : Nat} {Q : Exit → Act → World → Prop} {env : Env} {w : World} {ops : Array Oper} {l : List Oper} {o : Oper} {S : World → Prop} {fuel : Nat} {listed : Array Bool} {rs : List Nat}
theorem rw_new (d : Nat) (cells : Array Value) (T : TypeId) (hc : ∀ fb, chk n ops env fb o d = true) (hr : ∀ fb, (execOp (ev env fb) o).run P w = .ok (.value (.pointer (some ⟨w.heap.size, 0, none⟩))) (w.alloc (.cells cells T)))
    (h : ∀ w' g, New w w' g cells T → RW r m P ds n Q ops l ((d, .pointer (some ⟨g, 0, none⟩)) :: env) w') : RW r m P ds n Q ops (o :: l) env w := rw_v d _ hc hr (h _ _ ⟨rfl, rfl⟩)
theorem rw_put (g : Nat) (cells : Array Value) (hc : ∀ fb, chk0 ops env fb o = true) (hr : ∀ fb, (execOp (ev env fb) o).run P w = .ok .skip (w.setRow g cells)) (h : ∀ w', Put w w' g cells → RW r m P ds n Q ops l env w') : RW r m P ds n Q ops (o :: l) env w := rw_s hc hr (h _ ⟨rfl⟩)
theorem rw_set1 (g k : Nat) (v : Value) (hc : ∀ fb, chk0 ops env fb o = true) (hr : ∀ fb, (execOp (ev env fb) o).run P w = .ok .skip (w.setCell ⟨g, k, none⟩ v)) (h : ∀ w', Set1 w w' g k v → RW r m P ds n Q ops l env w') : RW r m P ds n Q ops (o :: l) env w := rw_s hc hr (h _ ⟨rfl⟩)
theorem ar_new (i d : Nat) (cells : Array Value) (T : TypeId) (ho : ops[i]? = some o) (hc : ∀ fb, chk n ops env fb o d = true) (hr : ∀ fb, (execOp (ev env fb) o).run P w = .ok (.value (.pointer (some ⟨w.heap.size, 0, none⟩))) (w.alloc (.cells cells T))) (hS : ∀ w' g, New w w' g cells T → S w')
    (h : ∀ w' g, New w w' g cells T → DW P ds n Q ops S fuel (listed.setIfInBounds i true) ((d, .pointer (some ⟨g, 0, none⟩)) :: env) w') (hs : AR P ds n Q ops S fuel listed env w rs) : AR P ds n Q ops S fuel listed env w (i :: rs) :=
  ar_v i d _ ho hc hr (hS _ _ ⟨rfl, rfl⟩) (h _ _ ⟨rfl, rfl⟩) hs
theorem ar_put (i g : Nat) (cells : Array Value) (ho : ops[i]? = some o) (hc : ∀ fb, chk0 ops env fb o = true) (hr : ∀ fb, (execOp (ev env fb) o).run P w = .ok .skip (w.setRow g cells)) (hS : ∀ w', Put w w' g cells → S w')
    (h : ∀ w', Put w w' g cells → DW P ds n Q ops S fuel (listed.setIfInBounds i true) env w') (hs : AR P ds n Q ops S fuel listed env w rs) : AR P ds n Q ops S fuel listed env w (i :: rs) :=
  ar_s i ho hc hr (hS _ ⟨rfl⟩) (h _ ⟨rfl⟩) hs
theorem ar_set1 (i g k : Nat) (v : Value) (ho : ops[i]? = some o) (hc : ∀ fb, chk0 ops env fb o = true) (hr : ∀ fb, (execOp (ev env fb) o).run P w = .ok .skip (w.setCell ⟨g, k, none⟩ v)) (hS : ∀ w', Set1 w w' g k v → S w')
    (h : ∀ w', Set1 w w' g k v → DW P ds n Q ops S fuel (listed.setIfInBounds i true) env w') (hs : AR P ds n Q ops S fuel listed env w rs) : AR P ds n Q ops S fuel listed env w (i :: rs) :=
  ar_s i ho hc hr (hS _ ⟨rfl⟩) (h _ ⟨rfl⟩) hs
end
section
variable {P : Program} {ρ : Operand → Value} {w : World} {o : Oper}
/-- A whole row out of its block. -/
theorem ol_row (T : TypeId) (x : Operand) (g : Nat) (cs : Array Value) (t : TypeId) (fr : Nat × Nat) (d : TypeDesc) (ho : o.op = .load T x) (hx : ρ x = .pointer (some ⟨g, 0, none⟩)) (hg : w.heap[g]? = some (.cells cs t fr)) (hu : P.underlying T = some d) (hd : (match d with | .struct _ | .array _ _ => true | _ => false) = true) (hi : (P.info? T).map (·.size) = some cs.size) :
    (execOp ρ o).run P w = .ok (.value (.agg cs)) w := by
  unfold execOp
  simp only [ho, hx, Instr.loadAt, Instr.sureAddr, Sem.run_bind, Sem.run_pure, Result.andThen_ok, run_loadVar_row w g t T cs fr d hg hu hd hi]
/-- A whole row out of the middle of a block. -/
theorem ol_mid (T : TypeId) (x : Operand) (b off : Nat) (cs : List Value) (d : TypeDesc) (ho : o.op = .load T x) (hx : ρ x = .pointer (some ⟨b, off, none⟩)) (hc : w.rangeAt b off cs) (hu : P.underlying T = some d) (hd : d.isRow = true) (hi : (P.info? T).map (·.size) = some cs.length) :
    (execOp ρ o).run P w = .ok (.value (.agg cs.toArray)) w := by
  unfold execOp
  simp only [ho, hx, Instr.loadAt, Instr.sureAddr, Sem.run_bind, Sem.run_pure, Result.andThen_ok, run_loadVar_mid w b off T cs d hc hu hd hi]
/-- One cell. -/
theorem ol_cell (T : TypeId) (x : Operand) (p : Addr) (v : Value) (d : TypeDesc) (ho : o.op = .load T x) (hx : ρ x = .pointer (some p)) (hc : w.cell? p = some v) (hu : P.underlying T = some d) (hd : (match d with | .struct _ | .array _ _ => true | _ => false) = false) :
    (execOp ρ o).run P w = .ok (.value v) w := by
  have ha : (isAgg T).run P w = .ok false w := by
    cases d <;> simp_all [isAgg, run_underlying hu]
  unfold execOp
  simp only [ho, hx, Instr.loadAt, Instr.sureAddr, Sem.run_bind, Sem.run_pure, Result.andThen_ok, loadVar, ha, Bool.false_eq_true, if_false]
  simp [hc]
theorem ol_store (T : TypeId) (x y : Operand) (g : Nat) (cells old : Array Value) (t : TypeId) (ho : o.op = .store T x y) (hx : ρ x = .pointer (some ⟨g, 0, none⟩)) (hy : ρ y = .agg cells) (hg : w.heap[g]? = some (.cells old t (0, 0))) (hi : (P.info? T).map (·.size) = some cells.size) (hold : old.size = cells.size) (h1 : cells.all (·.oneCell') = true) :
    (execOp ρ o).run P w = .ok .skip (w.setRow g cells) := by
  unfold execOp
  rw [ho]
  simp only [hx, hy, Instr.storeAt, Instr.sureAddr, Sem.run_bind, Sem.run_pure, Result.andThen_ok, run_storeVar_row w g t T old cells hg hi hold h1]
/-- An element's place. -/
theorem ol_index (T : TypeId) (x y : Operand) (g off j mm c sz : Nat) (E : TypeId) (ho : o.op = .indexAddr T x y) (hx : ρ x = .slice (some ⟨g, off, none⟩) mm c) (hy : ρ y = .int .i64 j) (hj : j < mm) (hu : P.underlying T = some (.slice E)) (hi : (P.info? E).map (·.size) = some sz) :
    (execOp ρ o).run P w = .ok (.value (.pointer (some ⟨g, off + j * sz, none⟩))) w := by
  have hs : (sizeOf E).run P w = .ok sz w := by
    cases hq : P.info? E with
    | none => simp [hq] at hi
    | some z => simp [hq] at hi; simp [sizeOf, typeInfo, hq, hi]
  unfold execOp
  rw [ho]
  simp only [hx, hy]
  have he : (if j * sz = 0 then (⟨g, off, none⟩ : Addr) else ⟨g, off + j * sz, none⟩) = ⟨g, off + j * sz, none⟩ := by split <;> simp_all
  simp [Instr.indexAt, asIntOf, run_underlying hu, hs, hj, Result.andThen, Addr.add, he]
/-- Texts compared. -/
theorem ol_eqs (T : TypeId) (x y : Operand) (r : TypeId) (p q : ByteArray) {b : Bool} (ho : o.op = .binOp .eql T x y r) (hx : ρ x = .string p) (hy : ρ y = .string q) (hb : (p.toList == q.toList) = b) : (execOp ρ o).run P w = .ok (.value (.bool b)) w := by
  subst hb
  unfold execOp
  rw [ho]
  simp only [hx, hy]
  go_simp
theorem ol_nes (T : TypeId) (x y : Operand) (r : TypeId) (p q : ByteArray) {b : Bool} (ho : o.op = .binOp .neq T x y r) (hx : ρ x = .string p) (hy : ρ y = .string q) (hb : (!(p.toList == q.toList)) = b) : (execOp ρ o).run P w = .ok (.value (.bool b)) w := by
  subst hb
  unfold execOp
  rw [ho]
  simp only [hx, hy]
  go_simp
theorem ol_eqb (T : TypeId) (x y : Operand) (r : TypeId) (p q : Bool) {b : Bool} (ho : o.op = .binOp .eql T x y r) (hx : ρ x = .bool p) (hy : ρ y = .bool q) (hb : (p == q) = b) (hu : P.underlying T = some .bool := by rfl) : (execOp ρ o).run P w = .ok (.value (.bool b)) w := by
  subst hb
  unfold execOp
  rw [ho]
  simp only [hx, hy]
  go_simp
theorem ol_eqi (T : TypeId) (x y : Operand) (r : TypeId) (k : IntKind) (p q : Int) {b : Bool} (ho : o.op = .binOp .eql T x y r) (hx : ρ x = .int k p) (hy : ρ y = .int k q) (hb : (p == q) = b) : (execOp ρ o).run P w = .ok (.value (.bool b)) w := by
  subst hb
  unfold execOp
  rw [ho]
  simp only [hx, hy]
  go_simp
theorem ol_conv {v v' : Value} {w' : World} (h : (execOp ρ o).run P w = .ok (.value v) w') (e : v = v') : (execOp ρ o).run P w = .ok (.value v') w' := by rw [← e]; exact h
end
theorem wrap64 {x : Int} (h1 : -9223372036854775808 ≤ x) (h2 : x ≤ 9223372036854775807) : IntKind.i64.wrap x = x := by unfold IntKind.wrap; simp [IntKind.bits, IntKind.signed]; omega
theorem subE_nil {env : Env} : SubE env [] := trivial
theorem subE_cons {env r : Env} {d : Nat} {v : Value} (h : ∀ fb, lkF env fb d = v) (hr : SubE env r) : SubE env ((d, v) :: r) := ⟨h, hr⟩
end Go.Proofs.YtbjjboicfghldabDoor

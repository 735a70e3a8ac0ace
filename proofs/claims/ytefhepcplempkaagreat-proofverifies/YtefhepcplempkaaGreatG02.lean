/- Operations for the walk by environments: new blocks, stores, loads, numbers. -/
import Derived.Test.YtefhepcplempkaaGreatG01
import Derived.Deep.MidRow
import Derived.Lib.Bytes
import Derived.Deep.OwnRows
import Derived.Test.YtefhepcplempkaaGreatG00
set_option linter.unusedVariables false
set_option maxRecDepth 100000
namespace Go.Proofs.YtefhepcplempkaaGreat
open Go.RowKit
structure New (w w' : World) (g : Nat) (cells : Array Value) (T : TypeId) : Prop where
 hg : g = w.heap.size
 hw : w' = w.alloc (.cells cells T)
section
variable {w w' : World} {g : Nat} {cells : Array Value} {T : TypeId}
theorem New.below (h : New w w' g cells T) : Below w.heap.size w w' := by rw [h.hw]; exact (Below.refl _ _).alloc (Nat.le_refl _) _
theorem New.row (h : New w w' g cells T) : w'.heap[g]? = some (.cells cells T (0, 0)) := by rw [h.hw, h.hg]; exact heap_alloc_new _ _
theorem New.size (h : New w w' g cells T) : w'.heap.size = g + 1 := by rw [h.hw, h.hg]; simp
end
structure Put (w w' : World) (g : Nat) (cells : Array Value) : Prop where
 hw : w' = w.setRow g cells
section
variable {w w' : World} {g : Nat} {cells : Array Value}
theorem Put.other (h : Put w w' g cells) {k : Nat} (hk : k ≠ g) : w'.heap[k]? = w.heap[k]? := by rw [h.hw]; exact setRow_other _ _ _ _ hk
theorem Put.row (h : Put w w' g cells) {old : Array Value} {T : TypeId} {fr : Nat × Nat} (ho : w.heap[g]? = some (.cells old T fr)) : w'.heap[g]? = some (.cells cells T fr) := by rw [h.hw]; exact setRow_heap _ _ _ _ _ _ ho
theorem Put.touch (h : Put w w' g cells) : Touch g w w' := by rw [h.hw]; exact Touch.setRow _ _ _
theorem Put.below (h : Put w w' g cells) {N : Nat} {w0 : World} (hb : Below N w0 w) (hg : N <= g) (hs : N <= w.heap.size) : Below N w0 w' := h.touch.below hb hg hs
end
structure Set1 (w w' : World) (g o : Nat) (v : Value) : Prop where
 hw : w' = w.setCell ⟨g, o, none⟩ v
section
variable {w w' : World} {g o : Nat} {v : Value}
theorem Set1.touch (h : Set1 w w' g o v) : Touch g w w' := by rw [h.hw]; exact Touch.setCell _ _ _ _
theorem Set1.other (h : Set1 w w' g o v) {k : Nat} (hk : k ≠ g) : w'.heap[k]? = w.heap[k]? := by rw [h.hw]; exact heap_setCell_other _ _ _ _ hk
theorem Set1.size (h : Set1 w w' g o v) : w'.heap.size = w.heap.size := by rw [h.hw]; simp
end
section
variable {r : Option Nat} {m : Nat} {P : Program} {ds : List Deferred} {n : Nat} {Q : Exit → Act → World → Prop} {env : Env} {w : World} {ops : Array Oper} {l : List Oper} {o : Oper} {S : World → Prop} {fuel : Nat} {listed : Array Bool} {rs : List Nat}
theorem Zbk (d : Nat) (cells : Array Value) (T : TypeId) (hc : ∀ fb, chk n ops env fb o d = true) (hr : ∀ fb, (execOp (ev env fb) o).run P w = .ok (.value (.pointer (some ⟨w.heap.size, 0, none⟩))) (w.alloc (.cells cells T)))
  (h : ∀ w' g, New w w' g cells T -> RW r m P ds n Q ops l ((d, .pointer (some ⟨g, 0, none⟩)) :: env) w') : RW r m P ds n Q ops (o :: l) env w := rw_v d _ hc hr (h _ _ ⟨rfl, rfl⟩)
theorem Zcy (g : Nat) (cells : Array Value) (hc : ∀ fb, chk0 ops env fb o = true) (hr : ∀ fb, (execOp (ev env fb) o).run P w = .ok .skip (w.setRow g cells)) (h : ∀ w', Put w w' g cells -> RW r m P ds n Q ops l env w') : RW r m P ds n Q ops (o :: l) env w := rw_s hc hr (h _ ⟨rfl⟩)
theorem Zvw (g k : Nat) (v : Value) (hc : ∀ fb, chk0 ops env fb o = true) (hr : ∀ fb, (execOp (ev env fb) o).run P w = .ok .skip (w.setCell ⟨g, k, none⟩ v)) (h : ∀ w', Set1 w w' g k v -> RW r m P ds n Q ops l env w') : RW r m P ds n Q ops (o :: l) env w := rw_s hc hr (h _ ⟨rfl⟩)
theorem Zyj (i d : Nat) (cells : Array Value) (T : TypeId) (ho : ops[i]? = some o) (hc : ∀ fb, chk n ops env fb o d = true) (hr : ∀ fb, (execOp (ev env fb) o).run P w = .ok (.value (.pointer (some ⟨w.heap.size, 0, none⟩))) (w.alloc (.cells cells T))) (hS : ∀ w' g, New w w' g cells T -> S w')
  (h : ∀ w' g, New w w' g cells T -> DW P ds n Q ops S fuel (listed.setIfInBounds i true) ((d, .pointer (some ⟨g, 0, none⟩)) :: env) w') (hs : AR P ds n Q ops S fuel listed env w rs) : AR P ds n Q ops S fuel listed env w (i :: rs) :=
 ar_v i d _ ho hc hr (hS _ _ ⟨rfl, rfl⟩) (h _ _ ⟨rfl, rfl⟩) hs
theorem Zjs (i g : Nat) (cells : Array Value) (ho : ops[i]? = some o) (hc : ∀ fb, chk0 ops env fb o = true) (hr : ∀ fb, (execOp (ev env fb) o).run P w = .ok .skip (w.setRow g cells)) (hS : ∀ w', Put w w' g cells -> S w')
  (h : ∀ w', Put w w' g cells -> DW P ds n Q ops S fuel (listed.setIfInBounds i true) env w') (hs : AR P ds n Q ops S fuel listed env w rs) : AR P ds n Q ops S fuel listed env w (i :: rs) :=
 ar_s i ho hc hr (hS _ ⟨rfl⟩) (h _ ⟨rfl⟩) hs
theorem Zgc (i g k : Nat) (v : Value) (ho : ops[i]? = some o) (hc : ∀ fb, chk0 ops env fb o = true) (hr : ∀ fb, (execOp (ev env fb) o).run P w = .ok .skip (w.setCell ⟨g, k, none⟩ v)) (hS : ∀ w', Set1 w w' g k v -> S w')
  (h : ∀ w', Set1 w w' g k v -> DW P ds n Q ops S fuel (listed.setIfInBounds i true) env w') (hs : AR P ds n Q ops S fuel listed env w rs) : AR P ds n Q ops S fuel listed env w (i :: rs) :=
 ar_s i ho hc hr (hS _ ⟨rfl⟩) (h _ ⟨rfl⟩) hs
end
section
variable {P : Program} {ρ : Operand → Value} {w : World} {o : Oper}
theorem Zcf (T : TypeId) (x : Operand) (g : Nat) (cs : Array Value) (t : TypeId) (fr : Nat × Nat) (d : TypeDesc) (ho : o.op = .load T x) (hx : ρ x = .pointer (some ⟨g, 0, none⟩)) (hg : w.heap[g]? = some (.cells cs t fr)) (hu : P.underlying T = some d) (hd : (match d with | .struct _ | .array _ _ => true | _ => false) = true) (hi : (P.info? T).map (·.size) = some cs.size) :
  (execOp ρ o).run P w = .ok (.value (.agg cs)) w := by
 unfold execOp
 simp only [ho, hx, Instr.loadAt, Instr.sureAddr, Sem.run_bind, Sem.run_pure, Result.andThen_ok, run_loadVar_row w g t T cs fr d hg hu hd hi]
theorem Zjd (T : TypeId) (x : Operand) (b off : Nat) (cs : List Value) (d : TypeDesc) (ho : o.op = .load T x) (hx : ρ x = .pointer (some ⟨b, off, none⟩)) (hc : w.rangeAt b off cs) (hu : P.underlying T = some d) (hd : d.isRow = true) (hi : (P.info? T).map (·.size) = some cs.length) :
  (execOp ρ o).run P w = .ok (.value (.agg cs.toArray)) w := by
 unfold execOp
 simp only [ho, hx, Instr.loadAt, Instr.sureAddr, Sem.run_bind, Sem.run_pure, Result.andThen_ok, run_loadVar_mid w b off T cs d hc hu hd hi]
theorem Zai (T : TypeId) (x : Operand) (p : Addr) (v : Value) (d : TypeDesc) (ho : o.op = .load T x) (hx : ρ x = .pointer (some p)) (hc : w.cell? p = some v) (hu : P.underlying T = some d) (hd : (match d with | .struct _ | .array _ _ => true | _ => false) = false) :
  (execOp ρ o).run P w = .ok (.value v) w := by
 have ha : (isAgg T).run P w = .ok false w := by
  cases d <;> simp_all [isAgg, run_underlying hu]
 unfold execOp
 simp only [ho, hx, Instr.loadAt, Instr.sureAddr, Sem.run_bind, Sem.run_pure, Result.andThen_ok, loadVar, ha, Bool.false_eq_true, if_false]
 simp [hc]
theorem Za9 (T : TypeId) (x y : Operand) (g : Nat) (cells old : Array Value) (t : TypeId) (ho : o.op = .store T x y) (hx : ρ x = .pointer (some ⟨g, 0, none⟩)) (hy : ρ y = .agg cells) (hg : w.heap[g]? = some (.cells old t (0, 0))) (hi : (P.info? T).map (·.size) = some cells.size) (hold : old.size = cells.size) (h1 : cells.all (·.oneCell') = true) :
  (execOp ρ o).run P w = .ok .skip (w.setRow g cells) := by
 unfold execOp
 rw [ho]
 simp only [hx, hy, Instr.storeAt, Instr.sureAddr, Sem.run_bind, Sem.run_pure, Result.andThen_ok, run_storeVar_row w g t T old cells hg hi hold h1]
theorem Zbt (T : TypeId) (x y : Operand) (g off j mm c sz : Nat) (E : TypeId) (ho : o.op = .indexAddr T x y) (hx : ρ x = .slice (some ⟨g, off, none⟩) mm c) (hy : ρ y = .int .i64 j) (hj : j < mm) (hu : P.underlying T = some (.slice E)) (hi : (P.info? E).map (·.size) = some sz) :
  (execOp ρ o).run P w = .ok (.value (.pointer (some ⟨g, off + j * sz, none⟩))) w := by
 have hs : (sizeOf E).run P w = .ok sz w := by
  cases hq : P.info? E with
  | none => simp [hq] at hi
  | some z => simp [hq] at hi; simp [sizeOf, typeInfo, hq, hi]
 unfold execOp
 rw [ho]
 simp only [hx, hy]
 have he : (if j * sz = 0 then (⟨g, off, none⟩ : Addr) else ⟨g, off + j * sz, none⟩) = ⟨g, off + j * sz, none⟩ := by split <;> simp_all
 simp [Instr.indexAt, asIntOf, run_underlying hu, hs, hj, Result.andThen, Addr.add, he]
theorem Zq1 (T : TypeId) (x y : Operand) (r : TypeId) (p q : ByteArray) {b : Bool} (ho : o.op = .binOp .eql T x y r) (hx : ρ x = .string p) (hy : ρ y = .string q) (hb : (p.toList == q.toList) = b) : (execOp ρ o).run P w = .ok (.value (.bool b)) w := by
 subst hb
 unfold execOp
 rw [ho]
 simp only [hx, hy]
 go_simp
theorem Zuz (T : TypeId) (x y : Operand) (r : TypeId) (p q : ByteArray) {b : Bool} (ho : o.op = .binOp .neq T x y r) (hx : ρ x = .string p) (hy : ρ y = .string q) (hb : (!(p.toList == q.toList)) = b) : (execOp ρ o).run P w = .ok (.value (.bool b)) w := by
 subst hb
 unfold execOp
 rw [ho]
 simp only [hx, hy]
 go_simp
theorem Zaq {v v' : Value} {w' : World} (h : (execOp ρ o).run P w = .ok (.value v) w') (e : v = v') : (execOp ρ o).run P w = .ok (.value v') w' := by rw [<- e]; exact h
end
theorem Ziv {x : Int} (h1 : -9223372036854775808 <= x) (h2 : x <= 9223372036854775807) : IntKind.i64.wrap x = x := by unfold IntKind.wrap; simp [IntKind.bits, IntKind.signed]; omega
end Go.Proofs.YtefhepcplempkaaGreat
namespace Go.Proofs.YtefhepcplempkaaGreat.Ni
open Go.RowKit
def Row (g : Nat) (w : World) (R : List Int) : Prop := w.heap[g]? = some (.cells (R.map (Value.int .u8)).toArray 5)
theorem Row.set {g : Nat} {w : World} {R : List Int} (h : Row g w R) (i : Nat) (x : Int) : Row g (w.setCell ⟨g, i, none⟩ (.int .u8 x)) (R.set i x) := by
 have := heap_setCell_same w g i _ 5 (.int .u8 x) h
 unfold Row
 rw [this]
 congr 2
 rw [List.setIfInBounds_toArray, List.map_set]
theorem Row.cell {g : Nat} {w : World} {R : List Int} (h : Row g w R) {i : Nat} (hi : i < R.length) : w.cell? ⟨g, i, none⟩ = some (.int .u8 (R.getD i 0)) := by
 rw [cell_of_row _ _ _ _ _ _ h]
 simp [List.getElem?_eq_getElem hi]
theorem Row.frozen {g : Nat} {w : World} {R : List Int} (h : Row g w R) (i : Nat) : w.frozen? ⟨g, i, none⟩ = false := frozen_of_row _ _ _ _ _ h
theorem made_bytes (n : Nat) : madeCells #[Value.int .u8 0] n = ((List.replicate n (0 : Int)).map (Value.int .u8)).toArray := by
 apply Array.ext'
 rw [toList_madeCells_one]
 simp
theorem row_ag {w : World} {g n : Nat} {bs : List Int} (h : Row g w bs) (hl : bs.length = n) (hb : ∀ x ∈ bs, 0 <= x /\ x < 256) (hn : n <= 9223372036854775807) : Ag w (some ⟨g, 0, none⟩) n n bs := by
 refine ⟨?_, (fun h => by cases h), hl, hb⟩
 by_cases h0 : n = 0
 ·exact .inl ⟨h0, List.eq_nil_of_length_eq_zero (by omega)⟩
 ·exact .inr ⟨g, 0, rfl, hl, by omega, Nat.le_refl _, by unfold maxLen; omega, fun j hj => by rw [Nat.zero_add]; exact h.cell hj⟩
theorem info5b : (Tryz.prog.info? 5).map (fun i => (i.zero, i.size, i.bytes)) = some (some (.int .u8 0), 1, 1) := by kernel_rfl
theorem ag_head {w : World} {a : Option Addr} {n c : Nat} {bs : List Int} (h : Ag w a n c bs) (h1 : 0 < n) : ∃ g off, a = some ⟨g, off, none⟩ /\ n <= c /\ c <= maxLen /\ ∀ j, j < n -> w.cell? ⟨g, off + j, none⟩ = some (.int .u8 (bs.getD j 0)) := by
 rcases h.i with ⟨h0, _⟩ | ⟨g, off, h2, h3, h4, h5, h6, h7⟩
 ·omega
 ·exact ⟨g, off, h2, h5, h6, fun j hj => h7 j (by omega)⟩
theorem cell_alloc {w : World} {g off : Nat} {v : Value} (h : w.cell? ⟨g, off, none⟩ = some v) : ∀ o, (w.alloc o).cell? ⟨g, off, none⟩ = some v := fun o => (World.cell?_of_block (w := w) (Below.heap_alloc w _ _ (block_lt_of_cell h))).trans h
theorem Zxj {x y : Int} (hx : 0 <= x /\ x < 256) (hy : 0 <= y /\ y < 256) (h : UInt8.ofNat x.toNat = UInt8.ofNat y.toNat) : x = y := by
 have e := congrArg UInt8.toNat h
 rw [UInt8.toNat_ofNat', UInt8.toNat_ofNat', Nat.mod_eq_of_lt (by omega), Nat.mod_eq_of_lt (by omega)] at e
 omega
theorem Zrf : ∀ {a b : List Int}, (∀ x ∈ a, 0 <= x /\ x < 256) -> (∀ x ∈ b, 0 <= x /\ x < 256) -> (a.map fun n => UInt8.ofNat n.toNat) = (b.map fun n => UInt8.ofNat n.toNat) -> a = b
 | [], [], _, _, _ => rfl
 | [], _ :: _, _, _, h => by simp at h
 | _ :: _, [], _, _, h => by simp at h
 | x :: a, y :: b, ha, hb, h => by
  rw [List.map_cons, List.map_cons] at h
  injection h with h1 h2
  rw [Zxj (ha x (by simp)) (hb y (by simp)) h1, Zrf (fun z hz => ha z (List.mem_cons_of_mem _ hz)) (fun z hz => hb z (List.mem_cons_of_mem _ hz)) h2]
theorem Zs3 {a b : List Int} (ha : ∀ x ∈ a, 0 <= x /\ x < 256) (hb : ∀ x ∈ b, 0 <= x /\ x < 256) : (strOfNums a).toList = (strOfNums b).toList ↔ a = b := by
 rw [Go.Lib.strOfNums_toList, Go.Lib.strOfNums_toList]
 exact ⟨Zrf ha hb, fun h => by rw [h]⟩
theorem str_beq {a b : List Int} (ha : ∀ x ∈ a, 0 <= x /\ x < 256) (hb : ∀ x ∈ b, 0 <= x /\ x < 256) : ((strOfNums a).toList == (strOfNums b).toList) = decide (a = b) := by
 by_cases h : a = b
 ·simp [h]
 ·have : ¬ (strOfNums a).toList = (strOfNums b).toList := fun e => h ((Zs3 ha hb).1 e)
  simp [h, this]
theorem gen_w {W : World} {p q : World -> Prop} (F : q W) (h : ∀ v, q v -> p v) : p W := h W F
end Go.Proofs.YtefhepcplempkaaGreat.Ni
namespace Go.Proofs.YtefhepcplempkaaGreat.Ni
open Go.RowKit
theorem Zsp : ∀ x : Fin 256, bits BinOp.and IntKind.u8 (x.val : Int) 15 = (x.val : Int) % 16 := by decide +kernel
theorem Zxu : ∀ x y : Fin 16, bits BinOp.or IntKind.u8 ((x.val : Int) * 16) (y.val : Int) = 16 * (x.val : Int) + (y.val : Int) := by decide +kernel
theorem Zyl {x : Int} (h0 : 0 <= x) (h1 : x < 256) : bits BinOp.and IntKind.u8 x 15 = x % 16 := by
 have := Zsp ⟨x.toNat, by omega⟩
 rwa [show ((x.toNat : Nat) : Int) = x from by omega] at this
theorem or16 {x y : Int} (h0 : 0 <= x) (h1 : x <= 15) (h2 : 0 <= y) (h3 : y <= 15) : bits BinOp.or IntKind.u8 (x * 16) y = 16 * x + y := by
 have := Zxu ⟨x.toNat, by omega⟩ ⟨y.toNat, by omega⟩
 rwa [show ((x.toNat : Nat) : Int) = x from by omega, show ((y.toNat : Nat) : Int) = y from by omega] at this
theorem ownB_nil (w : World) (base : Nat) : OwnB w base (.slice none 0 0) [] := ⟨rfl, .inl ⟨rfl, rfl⟩⟩
theorem ag_nil (w : World) : Ag w none 0 0 [] := ⟨.inl ⟨rfl, rfl⟩, fun _ => ⟨rfl, rfl⟩, rfl, fun x hx => by cases hx⟩
theorem Zw9 (w : World) (a : Option Addr) : Ag w a 0 0 [] := ⟨.inl ⟨rfl, rfl⟩, fun _ => ⟨rfl, rfl⟩, rfl, fun x hx => by cases hx⟩
theorem in0_one (w : World) (x : Int) : In0 (w.alloc (.cells #[.int .u8 x] 5)) (some ⟨w.heap.size, 0, none⟩) 1 1 [x] :=
 .inr ⟨w.heap.size, 0, rfl, rfl, by omega, Nat.le_refl _, by unfold maxLen; omega, fun j hj => by
  have : j = 0 := by simp at hj; omega
  subst this
  rw [cell_of_row _ _ _ _ _ _ (heap_alloc_new _ _)]
  rfl⟩
theorem Zwn (w : World) (x y : Int) : In0 (w.alloc (.cells #[.int .u8 x, .int .u8 y] 5)) (some ⟨w.heap.size, 0, none⟩) 2 2 [x, y] :=
 .inr ⟨w.heap.size, 0, rfl, rfl, by omega, Nat.le_refl _, by unfold maxLen; omega, fun j hj => by
  have : j = 0 \/ j = 1 := by simp at hj; omega
  rcases this with rfl | rfl <;> (rw [cell_of_row _ _ _ _ _ _ (heap_alloc_new _ _)]; rfl)⟩
theorem below_go {w0 w w' : World} (h : Below w0.heap.size w0 w) (hb : Below w.heap.size w w') : Below w0.heap.size w0 w' := h.trans (hb.mono h.size)
theorem below_new (w : World) (o : Obj) : Below w.heap.size w (w.alloc o) := (Below.refl _ _).alloc (Nat.le_refl _) _
theorem _root_.Go.Proofs.YtefhepcplempkaaGreat.Ag.drewN {w : World} {a : Option Addr} {len cap : Nat} {bs : List Int} (h : Ag w a len cap bs) : Ag w.drew a len cap bs := ⟨h.i.drew, h.nil, h.l, h.b⟩
end Go.Proofs.YtefhepcplempkaaGreat.Ni
namespace Go.Proofs.YtefhepcplempkaaGreat.Ni
open Go.RowKit
structure Cut (w : World) (base : Nat) (a : Option Addr) (n : Nat) (bs : List Int) : Prop where
 ag : Ag w a n n bs
 own : 0 < n -> ∃ g off cur, a = some ⟨g, off, none⟩ /\ base <= g /\ w.heap[g]? = some (.cells cur 5)
theorem Zlz (b : List Int) (k j : Nat) : (b.drop k).getD j 0 = b.getD (k + j) 0 := by
 rw [List.getD, List.getD, List.getElem?_drop]
theorem Zso (n c k : Nat) (w : World) (hk : k < n) (hnc : n <= c) (hc : c <= maxLen) (hn : n <= 140737488355328) (g off : Nat) :
  Calls Tryz.prog 54 #[.slice (some ⟨g, off, none⟩) n c, .int .i64 k] w fun e w' => e = .returned (.slice (some ⟨g, off + k, none⟩) (n - k) (n - k)) /\ w' = w := by
 unfold maxLen at hc
 have h1 : (k : Int) <= n := by omega
 have h2 : (n : Int) <= c := by omega
 have h3 : ¬ n = k := by omega
 go_enter Tryz.func54, Tryz.ntmps54
 go_wp2_with fail
 go_ret
 exact ⟨rfl, rfl⟩
theorem Zpp (a : Option Addr) (n c : Nat) (w : World) (hnc : n <= c) (hc : c <= maxLen) (hn : n <= 140737488355328) (hd : a = none -> n = 0 /\ c = 0) :
  Calls Tryz.prog 54 #[.slice a n c, .int .i64 n] w fun e w' => (∃ a', e = .returned (.slice a' 0 0)) /\ w' = w := by
 unfold maxLen at hc
 have h2 : (n : Int) <= c := by omega
 cases a with
 | none =>
  obtain ⟨rfl, rfl⟩ := hd rfl
  clear hd
  rw [show ((0 : Nat) : Int) = 0 from rfl]
  go_enter Tryz.func54, Tryz.ntmps54
  go_wp2_with fail
  go_ret
  exact ⟨⟨_, rfl⟩, rfl⟩
 | some ad =>
  clear hd
  go_enter Tryz.func54, Tryz.ntmps54
  go_wp2_with fail
  go_ret
  exact ⟨⟨_, rfl⟩, rfl⟩
theorem Zdo (a : Option Addr) (n c k base : Nat) (bs : List Int) (w : World) (hk : k <= n) (hnc : n <= c) (hc : c <= maxLen) (hn : n <= 140737488355328) (h : Ag w a n c bs)
  (hown : 0 < n -> ∃ g off cur, a = some ⟨g, off, none⟩ /\ base <= g /\ w.heap[g]? = some (.cells cur 5)) :
  Calls Tryz.prog 54 #[.slice a n c, .int .i64 k] w fun e w' => (∃ a', e = .returned (.slice a' (n - k) (n - k)) /\ Cut w base a' (n - k) (bs.drop k)) /\ w' = w := by
 have hl := h.l
 by_cases hkn : k < n
 ·obtain ⟨g, off, cur, rfl, hg, hh⟩ := hown (by omega)
  refine (Zso n c k w hkn hnc hc hn g off).mono ?_
  rintro e w' ⟨rfl, rfl⟩
  refine ⟨⟨_, rfl, ⟨⟨.inr ⟨g, off + k, rfl, by rw [List.length_drop]; omega, by omega, Nat.le_refl _, by unfold maxLen at hc ⊢; omega, fun j hj => ?_⟩, (fun h => by cases h), by rw [List.length_drop]; omega, Zny h.b k⟩, fun _ => ⟨g, off + k, cur, rfl, hg, hh⟩⟩⟩, rfl⟩
  rcases h.i with ⟨h0, _⟩ | ⟨gb, off', h1, h2, h3, h4, h5, h7⟩
  ·omega
  ·injection h1 with h1
   injection h1 with e1 e2
   subst e1 e2
   rw [List.length_drop] at hj
   rw [Zlz, Nat.add_assoc]
   exact h7 (k + j) (by omega)
 ·have e : k = n := by omega
  subst e
  refine (Zpp a k c w hnc hc hn (fun ha => by have := h.nil ha; omega)).mono ?_
  rintro e w' ⟨⟨a', rfl⟩, rfl⟩
  rw [Nat.sub_self, List.drop_of_length_le (by omega)]
  exact ⟨⟨a', rfl, Zw9 w' a', fun h => by omega⟩, rfl⟩
end Go.Proofs.YtefhepcplempkaaGreat.Ni
namespace Go.Proofs.YtefhepcplempkaaGreat.Ni
open Go.RowKit
theorem _root_.Go.Proofs.YtefhepcplempkaaGreat.OwnB.cutable {w : World} {base : Nat} {v : Value} {bs : List Int} (h : OwnB w base v bs) (hb : isB bs) :
  ∃ a c, v = .slice a bs.length c /\ bs.length <= c /\ c <= maxLen /\ Ag w a bs.length c bs /\ (0 < bs.length -> ∃ g off cur, a = some ⟨g, off, none⟩ /\ base <= g /\ w.heap[g]? = some (.cells cur 5)) := by
 obtain ⟨a, c, hv, hag⟩ := OwnB.ag h hb
 rcases h.2 with ⟨e1, e2⟩ | ⟨k, cap, cur, e1, e2, e3, e4, e5, e6, e7⟩
 ·rw [hv] at e1
  injection e1 with e1 e3 e4
  exact ⟨a, c, hv, by omega, by unfold maxLen; omega, hag, fun hp => by omega⟩
 ·rw [hv] at e1
  injection e1 with e1 e8 e9
  subst e9
  exact ⟨a, c, hv, e4, e5, hag, fun _ => ⟨k, 0, cur, e1, e2, e3⟩⟩
set_option maxHeartbeats 1000000 in
theorem of_any (a : Option Addr) (n c : Nat) (b : List Int) (w : World) (h : Ag w a n c b) (hn : 2 * n <= 140737488355328) :
  Calls Tryz.prog 28 #[.slice a n c] w fun e w' => (∃ a', e = .returned (.slice a' (2 * n) (2 * n)) /\ Cut w' w.heap.size a' (2 * n) (nib b)) /\ Below w.heap.size w w' := by
 have HL := Hid.mk h.l
 have HC : Hid (0 < n -> ∃ g off, a = some ⟨g, off, none⟩ /\ n <= c /\ c <= maxLen /\ ∀ j, j < n -> w.cell? ⟨g, off + j, none⟩ = some (.int .u8 (b.getD j 0))) := Hid.mk (ag_head h)
 have HB := Hid.mk h.b
 clear h
 go_enter Tryz.func28, Tryz.ntmps28
 go_wp2_with fail
 go_loopw [3, 8] (fun v i w' => ∃ j : Nat, j <= n /\ i = .int .i64 j /\ OwnB w' w.heap.size v (nib (b.take j)) /\ Below w.heap.size w w') (fun _ i _ => n - (intOf i).toNat)
 case atStart => exact ⟨0, by omega, rfl, ownB_nil _ _, Below.refl _ _⟩
 case round =>
  obtain ⟨j, hj, rfl, hown, hb⟩ := hrel
  have HO := Hid.mk hown
  have HBW := Hid.mk hb
  clear hown hb
  by_cases hlt : j < n
  ·obtain ⟨g, off, rfl, hnc, hcm, hcs⟩ := HC.out (by omega)
   unfold maxLen at hcm
   have hcell := (HBW.out.cell (p := ⟨g, off + j, none⟩) (block_lt_of_cell (hcs j hlt))).trans (hcs j hlt)
   have hjb : j < b.length := by have := HL.out; omega
   have hx := HB.out _ (getD_mem hjb)
   have HN := Hid.mk (Znq hjb)
   have HNL : Hid ((nib (b.take j)).length = 2 * j) := Hid.mk (by rw [nib_len, List.length_take]; omega)
   generalize b.getD j 0 = x at hcell hx HN
   obtain ⟨hx0, hx1⟩ := hx
   have hji : (j : Int) < n := by omega
   have hand := Zyl hx0 hx1
   clear hcs hjb
   have HO2 : Hid (∀ o : Obj, OwnB (wr.alloc o) w.heap.size u3 (nib (b.take j))) := Hid.mk fun o => OwnB.alloc HO.out o
   have HSZ := Hid.mk HBW.out.size
   clear HO
   go_wp2_with (first | (at_builtin; refine Zbz rfl (.tmp 12) (.tmp 17) rfl w.heap.size _ (nib (b.take j)) rfl (HO2.out _) (some ⟨wr.heap.size, 0, none⟩) 2 2 [x / 16, x % 16] rfl (Zwn wr _ _) (fun h => by cases h) rfl (by rw [HNL.out]; omega) (by have := HSZ.out; simp; omega) ?_; intro v1 w1 o1 hb1; rw [<- HN.out] at o1; have HO1 := Hid.mk o1; have HB1 := Hid.mk hb1; clear o1 hb1))
   refine ⟨⟨j + 1, by omega, by simp, HO1.out, ?_⟩, by simp [intOf]; omega⟩
   exact (HBW.out.alloc HSZ.out _).trans HB1.out
  ·have hji : ¬ (j : Int) < n := by omega
   have hbt : b.take j = b := List.take_of_length_le (by have := HL.out; omega)
   rw [hbt] at HO
   obtain ⟨a', c', rfl, h1, h2, h3, h4⟩ := HO.out.cutable (Zq9 HB.out)
   have hln : (nib b).length = 2 * n := by rw [nib_len, HL.out]
   rw [hln] at h1 h3 h4 ⊢
   have hcal := Zdo a' (2 * n) c' 0 w.heap.size (nib b) _ (by omega) h1 h2 (by omega) h3 h4
   rw [show ((0 : Nat) : Int) = 0 from rfl, Nat.sub_zero, List.drop_zero] at hcal
   have HCAL := Hid.mk hcal
   clear hbt h1 h2 h3 h4 hln hcal
   go_wp2_with fail
   refine HCAL.out.mono ?_
   rintro e w1 ⟨⟨a1, rfl, hcut⟩, rfl⟩
   have HCUT := Hid.mk hcut
   clear hcut
   go_wp2_with fail
   go_ret
   exact ⟨⟨a1, rfl, HCUT.out⟩, HBW.out⟩
end Go.Proofs.YtefhepcplempkaaGreat.Ni

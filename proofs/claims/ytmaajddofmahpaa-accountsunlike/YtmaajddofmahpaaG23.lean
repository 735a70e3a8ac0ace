/- Operations for the walk by environments: new blocks, stores, loads, numbers. -/
import Derived.Test.YtmaajddofmahpaaG22
import Derived.Test.YtmaajddofmahpaaG01
import Derived.Deep.MidRow
import Derived.Test.YtmaajddofmahpaaG20
import Derived.Test.YtmaajddofmahpaaG21
namespace Go.Proofs.Ytmaajddofmahpaa
open Go.RowKit
set_option linter.unusedVariables false
set_option maxRecDepth 100000
/-- A new block. -/
structure New (w w' : World) (g : Nat) (cells : Array Value) (T : TypeId) : Prop where
  hg : g = w.heap.size
  hw : w' = w.alloc (.cells cells T)
section
variable {w w' : World} {g : Nat} {cells : Array Value} {T : TypeId}
theorem New.below (h : New w w' g cells T) : Below w.heap.size w w' := by rw [h.hw]; exact (Below.refl _ _).alloc (Nat.le_refl _) _
theorem New.row (h : New w w' g cells T) : w'.heap[g]? = some (.cells cells T (0, 0)) := by rw [h.hw, h.hg]; exact heap_alloc_new _ _
theorem New.size (h : New w w' g cells T) : w'.heap.size = g + 1 := by rw [h.hw, h.hg]; simp
end
/-- A block is written over. -/
structure Put (w w' : World) (g : Nat) (cells : Array Value) : Prop where
  hw : w' = w.setRow g cells
section
variable {w w' : World} {g : Nat} {cells : Array Value}
theorem Put.other (h : Put w w' g cells) {k : Nat} (hk : k ≠ g) : w'.heap[k]? = w.heap[k]? := by rw [h.hw]; exact setRow_other _ _ _ _ hk
theorem Put.row (h : Put w w' g cells) {old : Array Value} {T : TypeId} {fr : Nat × Nat} (ho : w.heap[g]? = some (.cells old T fr)) : w'.heap[g]? = some (.cells cells T fr) := by rw [h.hw]; exact setRow_heap _ _ _ _ _ _ ho
theorem Put.touch (h : Put w w' g cells) : Touch g w w' := by rw [h.hw]; exact Touch.setRow _ _ _
theorem Put.below (h : Put w w' g cells) {N : Nat} {w0 : World} (hb : Below N w0 w) (hg : N ≤ g) (hs : N ≤ w.heap.size) : Below N w0 w' := h.touch.below hb hg hs
end
/-- A cell is written over. -/
structure Set1 (w w' : World) (g o : Nat) (v : Value) : Prop where
  hw : w' = w.setCell ⟨g, o, none⟩ v
section
variable {w w' : World} {g o : Nat} {v : Value}
end
section
variable {r : Option Nat} {m : Nat} {P : Program} {ds : List Deferred} {n : Nat} {Q : Exit → Act → World → Prop} {env : Env} {w : World} {ops : Array Oper} {l : List Oper} {o : Oper} {S : World → Prop} {fuel : Nat} {listed : Array Bool} {rs : List Nat}
theorem rw_new (d : Nat) (cells : Array Value) (T : TypeId) (hc : ∀ fb, chk n ops env fb o d = true) (hr : ∀ fb, (execOp (ev env fb) o).run P w = .ok (.value (.pointer (some ⟨w.heap.size, 0, none⟩))) (w.alloc (.cells cells T)))
    (h : ∀ w' g, New w w' g cells T → RW r m P ds n Q ops l ((d, .pointer (some ⟨g, 0, none⟩)) :: env) w') : RW r m P ds n Q ops (o :: l) env w := rw_v d _ hc hr (h _ _ ⟨rfl, rfl⟩)
theorem rw_put (g : Nat) (cells : Array Value) (hc : ∀ fb, chk0 ops env fb o = true) (hr : ∀ fb, (execOp (ev env fb) o).run P w = .ok .skip (w.setRow g cells)) (h : ∀ w', Put w w' g cells → RW r m P ds n Q ops l env w') : RW r m P ds n Q ops (o :: l) env w := rw_s hc hr (h _ ⟨rfl⟩)
theorem ar_put (i g : Nat) (cells : Array Value) (ho : ops[i]? = some o) (hc : ∀ fb, chk0 ops env fb o = true) (hr : ∀ fb, (execOp (ev env fb) o).run P w = .ok .skip (w.setRow g cells)) (hS : ∀ w', Put w w' g cells → S w')
    (h : ∀ w', Put w w' g cells → DW P ds n Q ops S fuel (listed.setIfInBounds i true) env w') (hs : AR P ds n Q ops S fuel listed env w rs) : AR P ds n Q ops S fuel listed env w (i :: rs) :=
  ar_s i ho hc hr (hS _ ⟨rfl⟩) (h _ ⟨rfl⟩) hs
end
section
variable {P : Program} {ρ : Operand → Value} {w : World} {o : Oper}
/-- A whole row out of its block. -/
theorem ol_row (T : TypeId) (x : Operand) (g : Nat) (cs : Array Value) (t : TypeId) (fr : Nat × Nat) (d : TypeDesc) (ho : o.op = .load T x) (hx : ρ x = .pointer (some ⟨g, 0, none⟩)) (hg : w.heap[g]? = some (.cells cs t fr)) (hu : P.underlying T = some d) (hd : (match d with | .struct _ | .array _ _ => true | _ => false) = true) (hi : (P.info? T).map (·.size) = some cs.size) :
    (execOp ρ o).run P w = .ok (.value (.agg cs)) w := by
  unfold execOp
  simp only [ho, hx, Instr.loadAt, Instr.sureAddr, Sem.run_bind, Sem.run_pure, Result.andThen_ok, run_loadVar_row w g t T cs fr d hg hu hd hi]
/-- One cell. -/
theorem ol_cell (T : TypeId) (x : Operand) (p : Addr) (v : Value) (d : TypeDesc) (ho : o.op = .load T x) (hx : ρ x = .pointer (some p)) (hc : w.cell? p = some v) (hu : P.underlying T = some d) (hd : (match d with | .struct _ | .array _ _ => true | _ => false) = false) :
    (execOp ρ o).run P w = .ok (.value v) w := by
  have ha : (isAgg T).run P w = .ok false w := by
    cases d <;> simp_all [isAgg, run_underlying hu]
  unfold execOp
  simp only [ho, hx, Instr.loadAt, Instr.sureAddr, Sem.run_bind, Sem.run_pure, Result.andThen_ok, loadVar, ha, Bool.false_eq_true, if_false]
  simp [hc]
theorem ol_store (T : TypeId) (x y : Operand) (g : Nat) (cells old : Array Value) (t : TypeId) (ho : o.op = .store T x y) (hx : ρ x = .pointer (some ⟨g, 0, none⟩)) (hy : ρ y = .agg cells) (hg : w.heap[g]? = some (.cells old t (0, 0))) (hi : (P.info? T).map (·.size) = some cells.size) (hold : old.size = cells.size) (h1 : cells.all (·.oneCell') = true) :
    (execOp ρ o).run P w = .ok .skip (w.setRow g cells) := by
  unfold execOp
  rw [ho]
  simp only [hx, hy, Instr.storeAt, Instr.sureAddr, Sem.run_bind, Sem.run_pure, Result.andThen_ok, run_storeVar_row w g t T old cells hg hi hold h1]
/-- An element's place. -/
theorem ol_index (T : TypeId) (x y : Operand) (g off j mm c sz : Nat) (E : TypeId) (ho : o.op = .indexAddr T x y) (hx : ρ x = .slice (some ⟨g, off, none⟩) mm c) (hy : ρ y = .int .i64 j) (hj : j < mm) (hu : P.underlying T = some (.slice E)) (hi : (P.info? E).map (·.size) = some sz) :
    (execOp ρ o).run P w = .ok (.value (.pointer (some ⟨g, off + j * sz, none⟩))) w := by
  have hs : (sizeOf E).run P w = .ok sz w := by
    cases hq : P.info? E with
    | none => simp [hq] at hi
    | some z => simp [hq] at hi; simp [sizeOf, typeInfo, hq, hi]
  unfold execOp
  rw [ho]
  simp only [hx, hy]
  have he : (if j * sz = 0 then (⟨g, off, none⟩ : Addr) else ⟨g, off + j * sz, none⟩) = ⟨g, off + j * sz, none⟩ := by split <;> simp_all
  simp [Instr.indexAt, asIntOf, run_underlying hu, hs, hj, Result.andThen, Addr.add, he]
/-- Texts compared. -/
theorem ol_eqs (T : TypeId) (x y : Operand) (r : TypeId) (p q : ByteArray) {b : Bool} (ho : o.op = .binOp .eql T x y r) (hx : ρ x = .string p) (hy : ρ y = .string q) (hb : (p.toList == q.toList) = b) : (execOp ρ o).run P w = .ok (.value (.bool b)) w := by
  subst hb
  unfold execOp
  rw [ho]
  simp only [hx, hy]
  go_simp
theorem ol_eqb (T : TypeId) (x y : Operand) (r : TypeId) (p q : Bool) {b : Bool} (ho : o.op = .binOp .eql T x y r) (hx : ρ x = .bool p) (hy : ρ y = .bool q) (hb : (p == q) = b) (hu : P.underlying T = some .bool := by rfl) : (execOp ρ o).run P w = .ok (.value (.bool b)) w := by
  subst hb
  unfold execOp
  rw [ho]
  simp only [hx, hy]
  go_simp
theorem ol_conv {v v' : Value} {w' : World} (h : (execOp ρ o).run P w = .ok (.value v) w') (e : v = v') : (execOp ρ o).run P w = .ok (.value v') w' := by rw [← e]; exact h
end
end Go.Proofs.Ytmaajddofmahpaa
/- The digests of nothing, the program's and the document's. -/
namespace Go.Proofs.Ytmaajddofmahpaa
open Go.RowKit
open Di (dref)
set_option linter.unusedVariables false
set_option maxRecDepth 100000
def z32 : List Int := List.replicate 32 0
def isB (b : List Int) : Prop := ∀ x ∈ b, 0 ≤ x ∧ x < 256
def t0 : T := .mk false [] []
def B8 (bs : List Int) : Array Value := (bs.map (Value.int .u8)).toArray
theorem B8_size (bs : List Int) : (B8 bs).size = bs.length := by simp [B8]
theorem infoD : (Try.prog.info? 24).map (·.size) = some 32 := by kernel_rfl
theorem z8_size {ds : List Int} (h : ds.length = 32) : (B8 z32).size = (B8 ds).size := by rw [B8_size, B8_size, h]; rfl
theorem infoD' {ds : List Int} (h : ds.length = 32) : (Try.prog.info? 24).map (·.size) = some (B8 ds).size := by rw [infoD, B8_size, h]
theorem B8_one (bs : List Int) : (B8 bs).all (·.oneCell') = true := all_oneCell_toArray (B8_one2 bs)
theorem dof_any (a : Option Addr) (n c : Nat) (b : List Int) (w : World) (h : Ag w a n c b) (hn : n ≤ 140737488351232) : Calls Try.prog 51 #[.slice a n c] w fun e w' => e = .returned (.agg (B8 (dref b))) ∧ Below w.heap.size w w' :=
  Di.of_any a n c b w h.i h.l.symm h.b (by omega)
theorem rdof_any (a : Option Addr) (n c : Nat) (b : List Int) (w : World) (h : Ag w a n c b) (hn : n ≤ 140737488351232) : Calls Try.prog 43 #[.slice a n c] w fun e w' => e = .returned (.agg (B8 (dref b))) ∧ Below w.heap.size w w' :=
  Di.rof_any a n c b w (h.i.inB h.nil) h.b (by rw [h.l]; exact hn)
theorem dref_len (b : List Int) : (dref b).length = 32 := Di.dref_len b
theorem dref_isB (b : List Int) : isB (dref b) := fun x hx => by
  unfold dref Di.dig at hx
  obtain ⟨i, _, rfl⟩ := List.mem_map.1 hx
  unfold Di.bt
  omega
theorem Below.setRow {B : Nat} {w0 w : World} {g : Nat} (h : Below B w0 w) (hg : B ≤ g) (cs : Array Value) : Below B w0 (w.setRow g cs) :=
  h.trans ⟨rfl, rfl, rfl, by simp, fun k hk => setRow_other w g k cs (by omega)⟩
theorem frozen_row {w : World} {g : Nat} {b : List Int} (h : Row g w b) (o : Nat) : w.frozen? ⟨g, o, none⟩ = false := frozen_of_row _ _ _ _ _ h
theorem liesP_txt {P : Nat → Prop} {w : World} {g n : Nat} {b : List Int} (h : Row g w b) (hl : b.length = n) (hb : isB b) (hn : n ≤ 140737488351232) (hP : P g) : LiesP P w (.mk false b []) ⟨false, some ⟨g, 0, none⟩, n, n, none, 0, 0⟩ :=
  liesP_eq.2 ⟨⟨rfl, row_ag (n := n) h hl hb (Nat.le_trans hn (by omega)), rfl, Nat.le_refl _, Nat.zero_le _, ⟨hn, Nat.zero_le _⟩, fun g' off e _ => by cases e; exact ⟨hP, frozen_row h⟩⟩, liesPAll_nil⟩
theorem enc_t0 : encP t0 = ([128], 0) := by decide +kernel
set_option maxHeartbeats 2000000 in
theorem emptyCode_any (w : World) : Calls Try.prog 35 #[] w fun e w' => e = .returned (.agg (B8 (dref []))) ∧ Below w.heap.size w w' := by
  have HOF := Hid.mk (fun v => dof_any none 0 0 [] v ⟨.inl ⟨rfl, rfl⟩, fun _ => ⟨rfl, rfl⟩, rfl, fun x hx => by cases hx⟩ (by omega))
  have HDL := Hid.mk (dref_len [])
  obtain ⟨ds, hds⟩ : ∃ ds, dref [] = ds := ⟨_, rfl⟩
  rw [hds] at HOF HDL ⊢
  clear hds
  go_enter Try.func35, Try.ntmps35
  go_upto_region 1 with fail
  refine gen_w (p := fun v => Code.wp _ _ _ _ v) (q := fun v => v.heap[w.heap.size]? = some (.cells (B8 z32) 24) ∧ Below w.heap.size w v) ⟨heap_alloc_new _ _, below_new _ _⟩ ?_
  rintro v ⟨hrow, hb⟩
  have HROW := Hid.mk hrow
  have HB := Hid.mk hb
  clear hrow hb
  go_wp2_with fail
  refine (HOF.out v).mono ?_
  rintro e w1 ⟨rfl, hb1⟩
  have HR1 := Hid.mk (Below.row hb1 HROW.out)
  have HB1 := Hid.mk (below_go HB.out hb1)
  clear hb1
  go_wp2_with (first | refine wpList_store_row rfl 24 _ _ rfl _ (B8 ds) rfl rfl 24 _ HR1.out (infoD' HDL.out) (z8_size HDL.out) (B8_one _) ?_)
  refine bodyPost_ret (results_cell_row Try.results35 _ _ w.heap.size 24 (B8 ds) (0, 0) _ rfl (setRow_heap _ _ _ _ _ _ HR1.out) Try.underlying24 rfl (infoD' HDL.out)) rfl ?_
  exact ⟨rfl, Below.setRow HB1.out (Nat.le_refl _) _⟩
set_option maxHeartbeats 2000000 in
theorem remptyCode_any (w : World) : Calls Try.prog 26 #[] w fun e w' => e = .returned (.agg (B8 (dref []))) ∧ Below w.heap.size w w' := by
  have HOF := Hid.mk (fun v => rdof_any none 0 0 [] v ⟨.inl ⟨rfl, rfl⟩, fun _ => ⟨rfl, rfl⟩, rfl, fun x hx => by cases hx⟩ (by omega))
  have HDL := Hid.mk (dref_len [])
  obtain ⟨ds, hds⟩ : ∃ ds, dref [] = ds := ⟨_, rfl⟩
  rw [hds] at HOF HDL ⊢
  clear hds
  go_enter Try.func26, Try.ntmps26
  go_upto_region 1 with fail
  refine gen_w (p := fun v => Code.wp _ _ _ _ v) (q := fun v => v.heap[w.heap.size]? = some (.cells (B8 z32) 24) ∧ Below w.heap.size w v) ⟨heap_alloc_new _ _, below_new _ _⟩ ?_
  rintro v ⟨hrow, hb⟩
  have HROW := Hid.mk hrow
  have HB := Hid.mk hb
  clear hrow hb
  go_wp2_with fail
  refine (HOF.out v).mono ?_
  rintro e w1 ⟨rfl, hb1⟩
  have HR1 := Hid.mk (Below.row hb1 HROW.out)
  have HB1 := Hid.mk (below_go HB.out hb1)
  clear hb1
  go_wp2_with (first | refine wpList_store_row rfl 24 _ _ rfl _ (B8 ds) rfl rfl 24 _ HR1.out (infoD' HDL.out) (z8_size HDL.out) (B8_one _) ?_)
  refine bodyPost_ret (results_cell_row Try.results26 _ _ w.heap.size 24 (B8 ds) (0, 0) _ rfl (setRow_heap _ _ _ _ _ _ HR1.out) Try.underlying24 rfl (infoD' HDL.out)) rfl ?_
  exact ⟨rfl, Below.setRow HB1.out (Nat.le_refl _) _⟩
set_option maxHeartbeats 2000000 in
theorem remptyRoot_any (w : World) : Calls Try.prog 27 #[] w fun e w' => e = .returned (.agg (B8 (dref [128]))) ∧ Below w.heap.size w w' := by
  have HOF := Hid.mk (fun (v : World) => rdof_any (some ⟨v.heap.size, 0, none⟩) 1 1 [128] (v.alloc (.cells #[.int .u8 128] 5)) (row_ag (show Row v.heap.size (v.alloc (.cells #[.int .u8 128] 5)) [128] from heap_alloc_new _ _) rfl (fun x hx => by simp at hx; omega) (show (1 : Nat) ≤ 9223372036854775807 by decide)) (by omega))
  have HDL := Hid.mk (dref_len [128])
  obtain ⟨ds, hds⟩ : ∃ ds, dref [128] = ds := ⟨_, rfl⟩
  rw [hds] at HOF HDL ⊢
  clear hds
  go_enter Try.func27, Try.ntmps27
  go_upto_region 1 with fail
  refine gen_w (p := fun v => Code.wp _ _ _ _ v) (q := fun v => v.heap[w.heap.size]? = some (.cells (B8 z32) 24) ∧ Below w.heap.size w v) ⟨heap_alloc_new _ _, below_new _ _⟩ ?_
  rintro v ⟨hrow, hb⟩
  have HROW := Hid.mk hrow
  have HB := Hid.mk hb
  clear hrow hb
  go_wp2_with fail
  refine (HOF.out v).mono ?_
  rintro e w1 ⟨rfl, hb1⟩
  have HR1 := Hid.mk (Below.row (below_go (below_new v _) hb1) HROW.out)
  have HB1 := Hid.mk (below_go HB.out (below_go (below_new v _) hb1))
  clear hb1
  go_wp2_with (first | refine wpList_store_row rfl 24 _ _ rfl _ (B8 ds) rfl rfl 24 _ HR1.out (infoD' HDL.out) (z8_size HDL.out) (B8_one _) ?_)
  refine bodyPost_ret (results_cell_row Try.results27 _ _ w.heap.size 24 (B8 ds) (0, 0) _ rfl (setRow_heap _ _ _ _ _ _ HR1.out) Try.underlying24 rfl (infoD' HDL.out)) rfl ?_
  exact ⟨rfl, Below.setRow HB1.out (Nat.le_refl _) _⟩
set_option maxHeartbeats 2000000 in
theorem emptyRoot_any (w : World) : Calls Try.prog 36 #[] w fun e w' => e = .returned (.agg (B8 (dref [128]))) ∧ Below w.heap.size w w' := by
  have HDL := Hid.mk (dref_len [128])
  have HOF := Hid.mk (fun (v : World) (a : Option Addr) (c : Nat) (h : Ag v a 1 c [128]) => dof_any a 1 c [128] v h (by omega))
  obtain ⟨ds, hds⟩ : ∃ ds, dref [128] = ds := ⟨_, rfl⟩
  rw [hds] at HOF HDL ⊢
  clear hds
  have HTX := Hid.mk (fun v => text_any none 0 0 [] v ⟨.inl ⟨rfl, rfl⟩, fun _ => ⟨rfl, rfl⟩, rfl, fun x hx => by cases hx⟩ (by omega))
  go_enter Try.func36, Try.ntmps36
  go_upto_region 1 with fail
  refine gen_w (p := fun v => Code.wp _ _ _ _ v) (q := fun v => v.heap[w.heap.size]? = some (.cells (B8 z32) 24) ∧ Below w.heap.size w v) ⟨heap_alloc_new _ _, below_new _ _⟩ ?_
  rintro v ⟨hrow, hb⟩
  have HROW := Hid.mk hrow
  have HB := Hid.mk hb
  clear hrow hb
  go_wp2_with fail
  refine (HTX.out v).mono ?_
  rintro e w1 ⟨rfl, hr1, hb1⟩
  have hlies := liesP_lies _ _ (liesP_txt (P := fun _ => True) (n := 0) hr1 rfl (fun x hx => by cases hx) (by omega) trivial)
  have hen := encode_own (.mk false [] []) ⟨false, some ⟨v.heap.size + 1, 0, none⟩, 0, 0, none, 0, 0⟩ w1 hlies
  rw [show encP (.mk false [] []) = ([128], 0) from enc_t0] at hen
  have HEN := Hid.mk hen
  have HB1 := Hid.mk (below_go HB.out hb1)
  have HR1 := Hid.mk (Below.row hb1 HROW.out)
  clear hr1 hb1 hlies hen HROW HB
  go_wp2_with fail
  refine HEN.out.mono ?_
  rintro e w2 ⟨⟨a, m, c, rfl, hag, -⟩, hb2⟩
  have hm : m = 1 := hag.l.symm
  subst hm
  have HO2 := Hid.mk (HOF.out w2 a c hag)
  have HB2 := Hid.mk (below_go HB1.out hb2)
  have HR2 := Hid.mk (Below.row hb2 HR1.out)
  clear hag hb2
  go_wp2_with fail
  refine HO2.out.mono ?_
  rintro e w3 ⟨rfl, hb3⟩
  have HR3 := Hid.mk (Below.row hb3 HR2.out)
  have HB3 := Hid.mk (below_go HB2.out hb3)
  clear hb3
  go_wp2_with (first | refine wpList_store_row rfl 24 _ _ rfl _ (B8 ds) rfl rfl 24 _ HR3.out (infoD' HDL.out) (z8_size HDL.out) (B8_one _) ?_)
  refine bodyPost_ret (results_cell_row Try.results36 _ _ w.heap.size 24 (B8 ds) (0, 0) _ rfl (setRow_heap _ _ _ _ _ _ HR3.out) Try.underlying24 rfl (infoD' HDL.out)) rfl ?_
  exact ⟨rfl, Below.setRow HB3.out (Nat.le_refl _) _⟩
end Go.Proofs.Ytmaajddofmahpaa

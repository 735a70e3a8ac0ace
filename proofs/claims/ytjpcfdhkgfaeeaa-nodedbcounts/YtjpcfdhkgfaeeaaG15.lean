/- What Bytes, New, Len and Get of a store answer. -/
import Derived.Test.YtjpcfdhkgfaeeaaG14
namespace Go.Proofs.Ytjpcfdhkgfaeeaa
open Go.RowKit
open Go.ChangeMaps (setBlock)
set_option linter.unusedVariables false
set_option maxRecDepth 100000
section
variable {a : Act} {w : World}
theorem rd_loadM {x : Operand} {p : Addr} {v : Value} {o : Oper} (ho : o.op = .load 67 x) (hx : a.eval x = .pointer (some p)) (hc : w.cell? p = some v) : (execOp a.eval o).run Try.prog w = .ok (.value v) w := by
  unfold execOp
  rw [ho]
  simp only [hx]
  go_simp
theorem rd_loadT {x : Operand} {p : Addr} {v : Value} {o : Oper} (ho : o.op = .load 34 x) (hx : a.eval x = .pointer (some p)) (hc : w.cell? p = some v) : (execOp a.eval o).run Try.prog w = .ok (.value v) w := by
  unfold execOp
  rw [ho]
  simp only [hx]
  go_simp
theorem rd_loadi {x : Operand} {p : Addr} {v : Value} {o : Oper} (ho : o.op = .load 3 x) (hx : a.eval x = .pointer (some p)) (hc : w.cell? p = some v) : (execOp a.eval o).run Try.prog w = .ok (.value v) w := by
  unfold execOp
  rw [ho]
  simp only [hx]
  go_simp
theorem rd_look {x y : Operand} {r : Value} {m d : Value} {o : Oper} (ho : o.op = .lookup 67 x y true) (hx : a.eval x = m) (hy : a.eval y = d) (hr : (Instr.lookup 67 m d true).run Try.prog w = .ok r w) : (execOp a.eval o).run Try.prog w = .ok (.value r) w := by
  unfold execOp
  rw [ho]
  simp only [hx, hy, Sem.run_bind, hr, Result.andThen_ok, Sem.run_pure]
theorem rd_allocE {o : Oper} (ho : o.op = .alloc 72) : (execOp a.eval o).run Try.prog w = .ok (.value (.pointer (some ⟨w.heap.size, 0, none⟩))) (w.alloc (.cells #[.string ByteArray.empty, .int .i64 0] 72)) := by
  unfold execOp
  rw [ho]
  go_simp
  try rfl
end
theorem e_one (s : ByteArray) (r : Int) : (#[Value.string s, Value.int .i64 r] : Array Value).all (·.oneCell') = true := by simp [Value.oneCell']
theorem rd_lenM {a : Act} {w : World} {x : Operand} {m clock : Nat} {es : Array MapEntry} {o : Oper} (ho : o.op = .call { callee := .builtin .len, args := #[x], argTypes := #[67] }) (hx : a.eval x = .map (some m)) (hm : w.heap[m]? = some (.map es clock)) : (execOp a.eval o).run Try.prog w = .ok (.value (.int .i64 es.size)) w := by
  simp [execOp, ho, resolve, invoke, builtin, hx, Builtin.len_, run_underlying Try.underlying67, MapKept.run_getObj_map hm, Result.andThen, goInt]
/-- A box that holds an entry. -/
def EBx (g : Nat) (v : World) (s : ByteArray) (r : Int) : Prop := v.heap[g]? = some (.cells #[.string s, .int .i64 r] 72)
theorem EBx.go {g : Nat} {v v' : World} {s : ByteArray} {r : Int} (h : EBx g v s r) (hb : Below v.heap.size v v') : EBx g v' s r := Below.row hb h
theorem EBx.c0 {g : Nat} {v : World} {s : ByteArray} {r : Int} (h : EBx g v s r) : v.cell? ⟨g, 0, none⟩ = some (.string s) := by rw [cell_of_row _ _ _ _ _ _ h]; rfl
theorem EBx.c1 {g : Nat} {v : World} {s : ByteArray} {r : Int} (h : EBx g v s r) : v.cell? ⟨g, 1, none⟩ = some (.int .i64 r) := by rw [cell_of_row _ _ _ _ _ _ h]; rfl
theorem EBx.fz {g : Nat} {v : World} {s : ByteArray} {r : Int} (h : EBx g v s r) (o : Nat) : v.frozen? ⟨g, o, none⟩ = false := frozen_of_row _ _ _ _ _ h
theorem ebox_below (w : World) (s : ByteArray) (r : Int) : Below w.heap.size w ((w.alloc (.cells #[.string ByteArray.empty, .int .i64 0] 72)).setRow w.heap.size #[.string s, .int .i64 r]) := Below.setRow (below_new _ _) (Nat.le_refl _) _
theorem bytes_any (s : ByteArray) (w : World) : Calls Try.prog 23 #[.string s] w fun e w' => e = .returned (.slice (some ⟨w.heap.size, 0, none⟩) s.size (grownCap w s.size 0 5)) ∧ w' = Lib.bytesWorld w 5 s := by
  have hc := text_conv w s
  go_enter Try.func23, Try.ntmps23
  go_wp2_with fail
  go_ret
  exact ⟨rfl, rfl⟩
theorem new_any (most : Int) (w : World) : Calls Try.prog 16 #[.int .i64 most] w fun e w' => (∃ g m, e = .returned (.pointer (some ⟨g, 0, none⟩)) ∧ Sto w' g m most [] ∧ w.heap.size ≤ g ∧ w.heap.size ≤ m) ∧ Below w.heap.size w w' := by
  have hmm := @run_makeMap Try.prog
  go_enter Try.func16, Try.ntmps16
  go_wp2_with fail
  go_ret
  have s1 : (w.alloc (.map #[] 0)).heap.size = w.heap.size + 1 := by simp
  refine ⟨⟨w.heap.size + 1, w.heap.size, by rfl, ⟨?_, ⟨(fun x hx => by cases hx), #[], 0, ?_, rfl⟩, by omega⟩, by omega, Nat.le_refl _⟩, below_go (below_new w (.map #[] 0)) (below_new _ _)⟩
  · rw [← s1]
    exact heap_alloc_new _ _
  · rw [heap_alloc_old _ _ (by rw [s1]; omega)]
    exact heap_alloc_new _ _
theorem len_any {w : World} {g m : Nat} {most : Int} {L : List Th} (h : Sto w g m most L) : Calls Try.prog 15 #[.pointer (some ⟨g, 0, none⟩)] w fun e w' => e = .returned (.int .i64 L.length) ∧ w' = w := by
  have c1 := h.c1
  obtain ⟨_, es, clock, hm, he⟩ := h.mp
  have hl := he.len
  rw [Array.length_toList] at hl
  have HL := Hid.mk hl
  clear h he hl
  go_enter Try.func15, Try.ntmps15
  go_upto_region 1 with fail
  rename_i KK hkk
  refine wp_region_lit ?_
  refine wl_pure 3 (.pointer (some ⟨g, 0, none⟩)) rfl (by kernel_rfl) (by kernel_rfl) ?_
  refine wl_pure 4 (.pointer (some ⟨g, 0, none⟩)) rfl (by kernel_rfl) (by kernel_rfl) ?_
  refine wl_pure 5 (.pointer (some ⟨g, 1, none⟩)) rfl (by kernel_rfl) (by kernel_rfl) ?_
  refine wl_pure 6 (.map (some m)) rfl (by kernel_rfl) (rd_loadM rfl (by kernel_rfl) c1) ?_
  refine wl_pure 7 (.int .i64 es.size) rfl (by kernel_rfl) (rd_lenM rfl (by kernel_rfl) hm) ?_
  refine wl_pure 2 (.int .i64 es.size) rfl (by kernel_rfl) (by kernel_rfl) ?_
  refine hkk _ _ ?_
  clear hkk
  go_frame
  go_wp2_with fail
  go_ret
  exact ⟨by rw [← HL.out]; rfl, rfl⟩
/-- What Get tells. -/
def getT (d : List Int) (L : List Th) : ByteArray × Int × Bool := match findT d L with
  | none => (ByteArray.empty, 0, false)
  | some (_, y) => (y.s, y.r, true)
theorem look_get {w : World} {m : Nat} {L : List Th} (h : MapAt w m L) (d : List Int) (hd : d.length = 32) : (Instr.lookup 67 (.map (some m)) (.agg (B8 d)) true).run Try.prog w = .ok (.tuple #[.agg #[.string (getT d L).1, .int .i64 (getT d L).2.1], .bool (getT d L).2.2]) w := by
  rw [look_run h d hd]
  unfold getT
  cases findT d L <;> rfl
set_option maxHeartbeats 4000000 in
theorem get_any {w : World} {g m : Nat} {most : Int} {L : List Th} (h : Sto w g m most L) (d : List Int) (hd : d.length = 32) : Calls Try.prog 19 #[.pointer (some ⟨g, 0, none⟩), .agg (B8 d)] w fun e w' => e = .returned (.tuple #[.string (getT d L).1, .int .i64 (getT d L).2.1, .bool (getT d L).2.2]) ∧ Below w.heap.size w w' := by
  obtain ⟨⟨eS, eR, eB⟩, hget⟩ : ∃ x, getT d L = x := ⟨_, rfl⟩
  rw [hget]
  have HLK := Hid.mk (show ∀ v, Sto v g m most L → (Instr.lookup 67 (.map (some m)) (.agg (B8 d)) true).run Try.prog v = .ok (.tuple #[.agg #[.string eS, .int .i64 eR], .bool eB]) v from fun v hv => by have := look_get hv.mp d hd; rwa [hget] at this)
  have HST := Hid.mk (h.go (below_new w (.cells (B8 d) 30)))
  have HBD := Hid.mk (dbx_new w d hd)
  have HBE := Hid.mk (below_new w (.cells (B8 d) 30))
  clear h hget hd
  simp only
  go_enter Try.func19, Try.ntmps19
  go_upto_region 1 with fail
  refine gen_w (p := fun v => Code.wp _ _ _ _ v) (q := fun v => Sto v g m most L ∧ DBx w.heap.size v d ∧ Below w.heap.size w v) ⟨HST.out, HBD.out, HBE.out⟩ ?_
  clear HST HBD HBE
  rintro v ⟨hst, hbd, hbe⟩
  have HST := Hid.mk hst
  have HBD := Hid.mk hbd
  have HBE := Hid.mk hbe
  clear hst hbd hbe
  rename_i KK hkk
  refine wp_region_held_drew (S := fun v' => Sto v' g m most L ∧ DBx w.heap.size v' d) (by kernel_rfl) ⟨HST.out.go (Below.refl _ _).drew, HBD.out.go (Below.refl _ _).drew⟩ (fun hS => ?_)
  refine rd_take 0 10 (.pointer (some ⟨g, 0, none⟩)) rfl rfl (by kernel_rfl) (by kernel_rfl) (by kernel_rfl) (fun _ _ _ h => h) (by kernel_rfl) (fun v _ => by kernel_rfl) hS ?_
  refine rd_take 1 11 (.pointer (some ⟨g, 0, none⟩)) rfl rfl (by kernel_rfl) (by kernel_rfl) (by kernel_rfl) (fun _ _ _ h => h) (by kernel_rfl) (fun v _ => by kernel_rfl) hS ?_
  refine rd_take 2 12 (.pointer (some ⟨g, 1, none⟩)) rfl rfl (by kernel_rfl) (by kernel_rfl) (by kernel_rfl) (fun _ _ _ h => h) (by kernel_rfl) (fun v _ => by kernel_rfl) hS ?_
  refine rd_take 3 13 (.map (some m)) rfl rfl (by kernel_rfl) (by kernel_rfl) (by kernel_rfl) (fun _ _ _ h => h) (by kernel_rfl) (fun v' hv => rd_loadM rfl (by kernel_rfl) hv.1.c1) hS ?_
  refine rd_take 4 14 (.agg (B8 d)) rfl rfl (by kernel_rfl) (by kernel_rfl) (by kernel_rfl) (fun _ _ _ h => h) (by kernel_rfl) (fun v' hv => rd_loadDd rfl (by kernel_rfl) hv.2) hS ?_
  refine rd_take 5 15 (.tuple #[.agg #[.string eS, .int .i64 eR], .bool eB]) rfl rfl (by kernel_rfl) (by kernel_rfl) (by kernel_rfl) (fun _ _ _ h => h) (by kernel_rfl) (fun v' hv => rd_look rfl (by kernel_rfl) (by kernel_rfl) (HLK.out v' hv.1)) hS ?_
  refine rd_take 6 9 (.tuple #[.agg #[.string eS, .int .i64 eR], .bool eB]) rfl rfl (by kernel_rfl) (by kernel_rfl) (by kernel_rfl) (fun _ _ _ h => h) (by kernel_rfl) (fun v _ => by kernel_rfl) hS ?_
  refine rd_take 7 16 (.agg #[.string eS, .int .i64 eR]) rfl rfl (by kernel_rfl) (by kernel_rfl) (by kernel_rfl) (fun _ _ _ h => h) (by kernel_rfl) (fun v _ => by kernel_rfl) hS ?_
  refine rd_take 8 17 (.bool eB) rfl rfl (by kernel_rfl) (by kernel_rfl) (by kernel_rfl) (fun _ _ _ h => h) (by kernel_rfl) (fun v _ => by kernel_rfl) hS ?_
  refine wpAnyH_ready (rs := [9]) (by kernel_rfl) (by simp) ?_
  refine rd_run 9 7 (.pointer (some ⟨v.heap.size, 0, none⟩)) rfl rfl (by kernel_rfl) (rd_allocE rfl) ⟨hS.1.go (below_new _ _), hS.2.go (below_new _ _)⟩ ?_ AllReadyH.nil
  refine wpAnyH_ready (rs := [10]) (by kernel_rfl) (by simp) ?_
  refine rd_run0 10 rfl rfl (by kernel_rfl) (rd_store 72 _ _ rfl v.heap.size #[.string eS, .int .i64 eR] (by kernel_rfl) (by kernel_rfl) 72 #[.string ByteArray.empty, .int .i64 0] (heap_alloc_new v.drew _) (by kernel_rfl) rfl (e_one _ _)) ⟨hS.1.go (ebox_below _ _ _), hS.2.go (ebox_below _ _ _)⟩ ?_ AllReadyH.nil
  refine rd_take 11 8 (.bool eB) rfl rfl (by kernel_rfl) (by kernel_rfl) (by kernel_rfl) (fun _ _ _ h => h) (by kernel_rfl) (fun v _ => by kernel_rfl) ⟨hS.1.go (ebox_below _ _ _), hS.2.go (ebox_below _ _ _)⟩ ?_
  refine wpAnyH_done (by kernel_rfl) ?_ _
  refine hkk _ _ ?_
  have hE : EBx v.heap.size ((v.drew.alloc (.cells #[.string ByteArray.empty, .int .i64 0] 72)).setRow v.heap.size #[.string eS, .int .i64 eR]) eS eR := setRow_heap _ _ _ _ _ _ (heap_alloc_new v.drew _)
  have hb : Below v.heap.size v ((v.drew.alloc (.cells #[.string ByteArray.empty, .int .i64 0] 72)).setRow v.heap.size #[.string eS, .int .i64 eR]) := below_go (Below.refl _ _).drew (ebox_below v.drew _ _)
  generalize (v.drew.alloc (.cells #[.string ByteArray.empty, .int .i64 0] 72)).setRow v.heap.size #[.string eS, .int .i64 eR] = u at hE hb ⊢
  clear hS hkk
  go_frame
  have HE := Hid.mk hE
  have HB2 := Hid.mk (below_go HBE.out hb)
  clear hE hb
  go_upto_region 2 with fail
  rename_i KK hkk
  refine wp_region_held_drew (S := fun v' => EBx v.heap.size v' eS eR) (by kernel_rfl) (HE.out.go (Below.refl _ _).drew) (fun hS => ?_)
  refine rd_take 0 18 (.pointer (some ⟨v.heap.size, 0, none⟩)) rfl rfl (by kernel_rfl) (by kernel_rfl) (by kernel_rfl) (fun _ _ _ h => h) (by kernel_rfl) (fun v _ => by kernel_rfl) hS ?_
  refine rd_take 1 19 (.string eS) rfl rfl (by kernel_rfl) (by kernel_rfl) (by kernel_rfl) (fun _ _ _ h => h) (by kernel_rfl) (fun v' hv => rd_loadT rfl (by kernel_rfl) hv.c0) hS ?_
  refine rd_take 2 20 (.pointer (some ⟨v.heap.size, 1, none⟩)) rfl rfl (by kernel_rfl) (by kernel_rfl) (by kernel_rfl) (fun _ _ _ h => h) (by kernel_rfl) (fun v _ => by kernel_rfl) hS ?_
  refine rd_take 3 21 (.int .i64 eR) rfl rfl (by kernel_rfl) (by kernel_rfl) (by kernel_rfl) (fun _ _ _ h => h) (by kernel_rfl) (fun v' hv => rd_loadi rfl (by kernel_rfl) hv.c1) hS ?_
  refine rd_take 4 22 (.bool eB) rfl rfl (by kernel_rfl) (by kernel_rfl) (by kernel_rfl) (fun _ _ _ h => h) (by kernel_rfl) (fun v _ => by kernel_rfl) hS ?_
  refine rd_take 5 4 (.string eS) rfl rfl (by kernel_rfl) (by kernel_rfl) (by kernel_rfl) (fun _ _ _ h => h) (by kernel_rfl) (fun v _ => by kernel_rfl) hS ?_
  refine rd_take 6 5 (.int .i64 eR) rfl rfl (by kernel_rfl) (by kernel_rfl) (by kernel_rfl) (fun _ _ _ h => h) (by kernel_rfl) (fun v _ => by kernel_rfl) hS ?_
  refine rd_take 7 6 (.bool eB) rfl rfl (by kernel_rfl) (by kernel_rfl) (by kernel_rfl) (fun _ _ _ h => h) (by kernel_rfl) (fun v _ => by kernel_rfl) hS ?_
  refine wpAnyH_done (by kernel_rfl) ?_ _
  refine hkk _ _ ?_
  clear hkk hS
  go_frame
  go_wp2_with fail
  go_ret3
  exact ⟨rfl, HB2.out.drew⟩
end Go.Proofs.Ytjpcfdhkgfaeeaa

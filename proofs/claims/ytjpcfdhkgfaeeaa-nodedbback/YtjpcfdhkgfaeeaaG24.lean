/- The store's Clone: a store of its own, with the same things. -/
import Derived.Test.YtjpcfdhkgfaeeaaG08
import Derived.Laws.Externs
import Derived.WalkSpells
import Derived.Test.YtjpcfdhkgfaeeaaG22
import Derived.Test.YtjpcfdhkgfaeeaaG23
namespace Go.Proofs.Ytjpcfdhkgfaeeaa
open Go.RowKit
set_option linter.unusedVariables false
set_option maxRecDepth 100000
theorem clone_run {w : World} {r clock : Nat} {es : Array MapEntry} (t : TypeId) (hm : w.heap[r]? = some (.map es clock)) : (Extern.MapsClone.clone #[.iface t (.map (some r))]).run Try.prog w = .ok (.iface t (.map (some w.heap.size))) (w.alloc (.map es clock)) := by
  obtain ⟨f, e1, e2⟩ : ∃ f, Extern.MapsClone.clone #[.iface t (.map (some r))] = getObj r >>= f ∧ f (.map es clock) = (newObj (.map es clock) >>= fun n => pure (.iface t (.map (some n)))) := ⟨_, rfl, rfl⟩
  rw [e1]
  simp [MapKept.run_getObj_map hm, Result.andThen, go_sem, e2]
theorem assert_run (w : World) (v : Value) (x : TypeId) : (Instr.typeAssert (.iface 67 v) x 67 false).run Try.prog w = .ok v w := by
  simp [Instr.typeAssert, run_underlying Try.underlying67, go_sem, Result.andThen]
set_option maxHeartbeats 2000000 in
theorem mclone_any {w : World} {m clock : Nat} {es : Array MapEntry} (hm : w.heap[m]? = some (.map es clock)) : Calls Try.prog 24 #[.map (some m)] w fun e w' => e = .returned (.map (some w.heap.size)) ∧ w' = w.alloc (.map es clock) := by
  have hq : ∀ (w : World) (r : Option Nat), (binOp .eql 67 (.map r) (.map none)).run Try.prog w = .ok (.bool r.isNone) w := fun w r => run_eql_map_nil w _ _ _ r Try.underlying67
  go_enter Try.func24, Try.ntmps24
  go_wp2
  rw [run_callFunc_extern Try.func36 (by kernel_rfl) (by kernel_rfl) (by kernel_rfl) (e := Extern.MapsClone.clone) (by kernel_rfl), clone_run 67 hm]
  simp only [Result.andThen]
  rw [Oper.upon_value]
  go_wp2
  rw [assert_run]
  simp only [Result.andThen]
  rw [Oper.upon_value]
  go_wp2
  go_ret
  exact ⟨rfl, rfl⟩
theorem built_STf : (fun (m : Int) (k : Nat) => Try.prog.built 69 [(0, .int .i64 m), (1, .map (some k))]) = fun m k => some #[.int .i64 m, .map (some k)] := by kernel_rfl
theorem built_ST (m : Int) (k : Nat) : Try.prog.built 69 [(0, .int .i64 m), (1, .map (some k))] = some #[.int .i64 m, .map (some k)] := congrFun (congrFun built_STf m) k
theorem rd_boxST {a : Act} {w : World} {x : Operand} {m : Int} {k : Nat} {o : Oper} (ho : o.op = .box 69 x) (hx : a.eval x = .agg #[.int .i64 m, .map (some k)]) : (execOp a.eval o).run Try.prog w = .ok (.value (.pointer (some ⟨w.heap.size, 0, none⟩))) (w.alloc (.cells #[.int .i64 m, .map (some k)] 69)) := by
  unfold execOp
  rw [ho]
  simp only [hx]
  go_simp
set_option maxHeartbeats 4000000 in
theorem clone_any {w : World} {g m : Nat} {most : Int} {L : List Th} (h : Sto w g m most L) : Calls Try.prog 10 #[.pointer (some ⟨g, 0, none⟩)] w fun e w' => (∃ g' m', e = .returned (.pointer (some ⟨g', 0, none⟩)) ∧ Sto w' g' m' most L ∧ w.heap.size ≤ g' ∧ w.heap.size ≤ m') ∧ Below w.heap.size w w' := by
  have HS := Hid.mk h
  clear h
  go_enter Try.func10, Try.ntmps10
  go_upto_region 1 with fail
  rename_i KK hkk
  refine wp_region_held_drew (S := fun v' => v'.cell? ⟨g, 0, none⟩ = some (.int .i64 most) ∧ v'.cell? ⟨g, 1, none⟩ = some (.map (some m))) (by kernel_rfl) ⟨HS.out.c0, HS.out.c1⟩ (fun hS => ?_)
  refine rd_take 0 3 (.pointer (some ⟨g, 0, none⟩)) rfl rfl (by kernel_rfl) (by kernel_rfl) (by kernel_rfl) (fun _ _ _ h => h) (by kernel_rfl) (fun v _ => by kernel_rfl) hS ?_
  refine rd_take 1 4 (.pointer (some ⟨g, 0, none⟩)) rfl rfl (by kernel_rfl) (by kernel_rfl) (by kernel_rfl) (fun _ _ _ h => h) (by kernel_rfl) (fun v _ => by kernel_rfl) hS ?_
  refine rd_take 2 5 (.pointer (some ⟨g, 0, none⟩)) rfl rfl (by kernel_rfl) (by kernel_rfl) (by kernel_rfl) (fun _ _ _ h => h) (by kernel_rfl) (fun v _ => by kernel_rfl) hS ?_
  refine rd_take 3 6 (.int .i64 most) rfl rfl (by kernel_rfl) (by kernel_rfl) (by kernel_rfl) (fun _ _ _ h => h) (by kernel_rfl) (fun v' hv => rd_loadi rfl (by kernel_rfl) hv.1) hS ?_
  refine rd_take 4 7 (.pointer (some ⟨g, 0, none⟩)) rfl rfl (by kernel_rfl) (by kernel_rfl) (by kernel_rfl) (fun _ _ _ h => h) (by kernel_rfl) (fun v _ => by kernel_rfl) hS ?_
  refine rd_take 5 8 (.pointer (some ⟨g, 0, none⟩)) rfl rfl (by kernel_rfl) (by kernel_rfl) (by kernel_rfl) (fun _ _ _ h => h) (by kernel_rfl) (fun v _ => by kernel_rfl) hS ?_
  refine rd_take 6 9 (.pointer (some ⟨g, 1, none⟩)) rfl rfl (by kernel_rfl) (by kernel_rfl) (by kernel_rfl) (fun _ _ _ h => h) (by kernel_rfl) (fun v _ => by kernel_rfl) hS ?_
  refine rd_take 7 10 (.map (some m)) rfl rfl (by kernel_rfl) (by kernel_rfl) (by kernel_rfl) (fun _ _ _ h => h) (by kernel_rfl) (fun v' hv => rd_loadM rfl (by kernel_rfl) hv.2) hS ?_
  obtain ⟨hl, es, clock, hm, he⟩ := HS.out.mp
  refine wpAnyH_ready (rs := [8]) (by kernel_rfl) (by simp) ?_
  refine rd_call 8 11 rfl rfl (by kernel_rfl) 24 #[.map (some m)] (by kernel_rfl) (R := fun val w' => val = .map (some w.drew.heap.size) ∧ w' = w.drew.alloc (.map es clock)) ((mclone_any (w := w.drew) hm).mono (fun e w' h => ⟨_, h.1, rfl, h.2⟩)) (fun val w' h => by rw [h.2]; exact ⟨below_cell (below_new _ _) hS.1, below_cell (below_new _ _) hS.2⟩) ?_ AllReadyH.nil
  rintro val w2 ⟨rfl, rfl⟩
  have hS2 : (w.drew.alloc (.map es clock)).cell? ⟨g, 0, none⟩ = some (.int .i64 most) ∧ (w.drew.alloc (.map es clock)).cell? ⟨g, 1, none⟩ = some (.map (some m)) := ⟨below_cell (below_new _ _) hS.1, below_cell (below_new _ _) hS.2⟩
  refine rd_take 9 12 (.agg #[.int .i64 most, .map (some w.drew.heap.size)]) rfl rfl (by kernel_rfl) (by kernel_rfl) (by kernel_rfl) (fun _ _ _ h => h) (by kernel_rfl) (fun v' _ => rd_build 69 _ rfl [(0, .int .i64 most), (1, .map (some w.drew.heap.size))] (by kernel_rfl) _ (built_ST _ _)) hS2 ?_
  refine wpAnyH_ready (rs := [10]) (by kernel_rfl) (by simp) ?_
  have hS3 := And.intro (below_cell (below_new (w.drew.alloc (.map es clock)) (.cells #[.int .i64 most, .map (some w.drew.heap.size)] 69)) hS2.1) (below_cell (below_new (w.drew.alloc (.map es clock)) (.cells #[.int .i64 most, .map (some w.drew.heap.size)] 69)) hS2.2)
  refine rd_run 10 13 (.pointer (some ⟨(w.drew.alloc (.map es clock)).heap.size, 0, none⟩)) rfl rfl (by kernel_rfl) (rd_boxST rfl (by kernel_rfl)) hS3 ?_ AllReadyH.nil
  refine rd_take 11 2 (.pointer (some ⟨(w.drew.alloc (.map es clock)).heap.size, 0, none⟩)) rfl rfl (by kernel_rfl) (by kernel_rfl) (by kernel_rfl) (fun _ _ _ h => h) (by kernel_rfl) (fun v _ => by kernel_rfl) hS3 ?_
  refine wpAnyH_done (by kernel_rfl) ?_ _
  refine hkk _ _ ?_
  clear hkk
  have HB := Hid.mk (below_go (below_new w.drew (.map es clock)) (below_new (w.drew.alloc (.map es clock)) (.cells #[.int .i64 most, .map (some w.drew.heap.size)] 69)))
  have HB2 := Hid.mk (show Below w.heap.size w ((w.drew.alloc (.map es clock)).alloc (.cells #[.int .i64 most, .map (some w.drew.heap.size)] 69)) from below_go (Below.refl _ _).drew HB.out)
  have s1 : (w.drew.alloc (.map es clock)).heap.size = w.heap.size + 1 := by simp
  have HN := Hid.mk (show Sto ((w.drew.alloc (.map es clock)).alloc (.cells #[.int .i64 most, .map (some w.drew.heap.size)] 69)) (w.heap.size + 1) w.heap.size most L from ⟨by rw [← s1]; exact heap_alloc_new _ _, ⟨hl, es, clock, by rw [heap_alloc_old _ _ (by rw [s1]; omega)]; exact heap_alloc_new w.drew _, he⟩, by omega⟩)
  rw [s1]
  generalize (w.drew.alloc (.map es clock)).alloc (.cells #[.int .i64 most, .map (some w.drew.heap.size)] 69) = uE at HN HB2 ⊢
  clear HB s1 hm he hl HS
  go_frame
  go_wp2_with fail
  go_ret
  exact ⟨⟨w.heap.size + 1, w.heap.size, rfl, HN.out, by omega, Nat.le_refl _⟩, HB2.out⟩
end Go.Proofs.Ytjpcfdhkgfaeeaa
/- What stands while a list of calls is carried out; the law NodedbAll. -/
namespace Go.Proofs.Ytjpcfdhkgfaeeaa
open Go.RowKit
set_option linter.unusedVariables false
set_option maxRecDepth 100000
/-- A store, and the reference's own in its box. -/
structure Al (W v : World) (g m gr : Nat) (most : Int) (L : List Th) (a : Option Addr) (n c : Nat) : Prop where
  st : Sto v g m most L
  rb : SBx gr v most a n c
  ls : Ls v a n c L
  iv : Iv L
  bel : Below W.heap.size W v
  hg : W.heap.size ≤ g ∧ W.heap.size ≤ m ∧ W.heap.size ≤ gr
  ne : gr ≠ g ∧ gr ≠ m
section
variable {W v v' v2 : World} {g m gr : Nat} {most : Int} {L L' : List Th} {a a' : Option Addr} {n c n' c' : Nat}
theorem Al.go (h : Al W v g m gr most L a n c) (hb : Below v.heap.size v v') : Al W v' g m gr most L a n c := ⟨h.st.go hb, h.rb.go hb, h.ls.go hb, h.iv, below_go h.bel hb, h.hg, h.ne⟩
theorem Al.drew (h : Al W v g m gr most L a n c) : Al W v.drew g m gr most L a n c := h.go (Below.refl _ _).drew
theorem Al.len (h : Al W v g m gr most L a n c) : n = L.length := h.ls.l
theorem Al.step (h : Al W v g m gr most L a n c) (hs : Sto v' g m most L') (hl : Ls v' a' n' c' L') (t : Touch m v v') (hv : Iv L') (hp : Put v' v2 gr #[.int .i64 most, .slice a' n' c']) : Al W v2 g m gr most L' a' n' c' := by
  have hb : SBx gr v' most a n c := t.row h.rb h.ne.2
  have hbl := touch_below h.bel t h.hg.2.1
  refine ⟨?_, hp.row hb, ?_, hv, hp.below hbl h.hg.2.2 hbl.size, h.hg, h.ne⟩
  · obtain ⟨rfl⟩ := hp
    exact hs.res h.ne.1 h.ne.2
  · obtain ⟨rfl⟩ := hp
    exact hl.one (hl.nbox hb (by simp))
end
theorem built_RSg : (fun (m : Int) => Try.prog.built 28 [(0, .int .i64 m)]) = fun m => some #[.int .i64 m, .slice none 0 0] := by kernel_rfl
theorem ol_build {P : Program} {ρ : Operand → Value} {w : World} {o : Oper} (t : TypeId) (parts : Array (Nat × Operand)) (l : List (Nat × Value)) (cells : Array Value) (ho : o.op = .build t parts) (hl : (parts.map fun (i, x) => (i, ρ x)).toList = l) (hf : P.built t l = some cells) : (execOp ρ o).run P w = .ok (.value (.agg cells)) w := by
  unfold execOp
  rw [ho]
  have := run_build (P := P) w t (parts.map fun (i, x) => (i, ρ x)) cells (by rw [hl]; exact hf)
  simp only [Sem.run_bind, this, Result.andThen_ok, Sem.run_pure]
theorem ol_op {W v : World} {gx off n c : Nat} {xs : List Cl} (h : Cs W (some ⟨gx, off, none⟩) n c xs) (hb : Below W.heap.size W v) {j : Nat} {x : Cl} (hj : xs[j]? = some x) {ρ : Operand → Value} {o : Oper} (p : Operand) (ho : o.op = .load 32 p) (hp : ρ p = .pointer (some ⟨gx, off + j * 35, none⟩)) : (execOp ρ o).run Try.prog v = .ok (.value (.agg x.cells.toArray)) v :=
  ol_mid 32 _ _ _ _ _ ho hp ((h.go hb).rng hj) Try.underlying32 rfl (by rw [Cl.clen (h.ok x (List.mem_of_getElem? hj)).1]; kernel_rfl)
theorem op_size {x : Cl} (h : x.d.length = 32) : x.cells.toArray.size = 35 := by rw [List.size_toArray, Cl.clen h]
theorem op_ones (x : Cl) : x.cells.toArray.all (·.oneCell') = true := by
  rw [Array.all_eq_true_iff_forall_mem]
  intro u hu
  exact Cl.one x u (by simpa using hu)
def zop : Array Value := #[.int .i64 0, .string ⟨#[]⟩, .bool false] ++ B8 z32
theorem zop_size : zop.size = 35 := by rfl
set_option maxHeartbeats 4000000 in
theorem all_law (most : Int) (a : Option Addr) (n c : Nat) (xs : List Cl) (W : World) (hC : Cs W a n c xs) :
    Calls Try.prog 3 #[.int .i64 most, .slice a n c] W fun e W' => e = .returned (.bool true) ∧ Below W.heap.size W W' := by
  have hnl := hC.le
  refine cw_enter Try.func3 rfl 55 rfl ?_
  show CW _ _ _ _ _ _ _ [(0, .int .i64 most), (1, .slice a n c)] _
  refine cw_seq ?_
  refine cw_region ?_
  refine rw_p 4 (.bool false) (fun _ => by kernel_rfl) (fun _ => by kernel_rfl) ?_
  refine rw_nil ?_
  refine nw_then ?_
  refine cw_seq ?_
  refine cw_region ?_
  refine rw_p 11 (.int .i64 most) (fun _ => by kernel_rfl) (fun _ => by kernel_rfl) ?_
  refine rw_call 12 9 #[.int .i64 most] (fun _ => by kernel_rfl) (fun _ => by kernel_rfl) (R := fun val w' => ∃ g m, val = .tuple #[.pointer (some ⟨g, 0, none⟩), .bool true] ∧ Sto w' g m most [] ∧ W.heap.size ≤ g ∧ W.heap.size ≤ m ∧ Below W.heap.size W w') ((begun_any most W).mono (fun e w' h => by obtain ⟨⟨g, m, rfl, h1, h2, h3⟩, hb⟩ := h; exact ⟨_, rfl, g, m, rfl, h1, h2, h3, hb⟩)) ?_
  rintro val u1 ⟨g0, m0, rfl, hst0, hg0, hm0, hb0⟩
  refine rw_p 10 (.tuple #[.pointer (some ⟨g0, 0, none⟩), .bool true]) (fun _ => by kernel_rfl) (fun _ => by kernel_rfl) ?_
  refine rw_p 13 (.pointer (some ⟨g0, 0, none⟩)) (fun _ => by kernel_rfl) (fun _ => by kernel_rfl) ?_
  refine rw_p 14 (.bool true) (fun _ => by kernel_rfl) (fun _ => by kernel_rfl) ?_
  refine rw_p 5 (.pointer (some ⟨g0, 0, none⟩)) (fun _ => by kernel_rfl) (fun _ => by kernel_rfl) ?_
  refine rw_p 6 (.bool true) (fun _ => by kernel_rfl) (fun _ => by kernel_rfl) ?_
  refine rw_nil ?_
  refine nw_then ?_
  refine cw_seq ?_
  refine cw_seq ?_
  refine cw_region ?_
  refine rw_p 15 (.bool true) (fun _ => by kernel_rfl) (fun _ => by kernel_rfl) ?_
  refine rw_p 16 (.bool false) (fun _ => by kernel_rfl) (fun _ => by kernel_rfl) ?_
  refine rw_nil ?_
  refine nw_then ?_
  refine cw_cond_f (fun _ => by kernel_rfl) ?_
  refine cw_skip ?_
  refine nw_then ?_
  refine cw_seq ?_
  refine cw_region ?_
  refine rw_p 17 (.int .i64 most) (fun _ => by kernel_rfl) (fun _ => by kernel_rfl) ?_
  refine rw_p 18 (.agg #[.int .i64 most, .slice none 0 0]) (fun _ => by kernel_rfl) (fun _ => ol_build 28 _ [(0, .int .i64 most)] _ rfl (by kernel_rfl) (congrFun built_RSg most)) ?_
  refine rw_new 7 #[.int .i64 0, .slice none 0 0] 28 (fun _ => by kernel_rfl) (fun _ => by kernel_rfl) ?_
  intro uA gr hnA
  refine rw_put gr #[.int .i64 most, .slice none 0 0] (fun _ => by kernel_rfl) (fun _ => ol_store 28 _ _ _ _ _ _ rfl (by kernel_rfl) (by kernel_rfl) hnA.row (by kernel_rfl) rfl (s_one _ _ _ _)) ?_
  intro uB hpB
  have hnB := hnA.put hpB
  have hA0 : Al W uB g0 m0 gr most [] none 0 0 := ⟨hst0.go hnB.below, hnB.row, ⟨rfl, ⟨Nat.le_refl _, by unfold maxLen; omega⟩, fun _ => ⟨rfl, rfl⟩, fun j x h => by simp at h, fun x hx => by cases hx⟩, iv_nil, below_go hb0 hnB.below, ⟨hg0, hm0, by have h1 := hnB.hg; have h2 := hb0.size; omega⟩, by have h1 := hnB.hg; have h2 := hst0.lts; omega⟩
  refine rw_nil ?_
  refine nw_then ?_
  refine cw_seq ?_
  refine cw_seq ?_
  refine cw_region ?_
  refine rw_p 19 (.slice a n c) (fun _ => by kernel_rfl) (fun _ => by kernel_rfl) ?_
  refine rw_p 20 (.int .i64 n) (fun _ => by kernel_rfl) (fun _ => by kernel_rfl) ?_
  refine rw_p 21 (.int .i64 0) (fun _ => by kernel_rfl) (fun _ => by kernel_rfl) ?_
  refine rw_nil ?_
  refine nw_then ?_
  refine cw_block ?_
  refine cw_loop (X := (Nat × (Nat × Nat) × List Th × Option Addr × Nat × Nat)) (fun x : (Nat × (Nat × Nat) × List Th × Option Addr × Nat × Nat) => [(5, .pointer (some ⟨x.2.1.1, 0, none⟩)), (7, .pointer (some ⟨gr, 0, none⟩)), (19, .slice a n c), (20, .int .i64 ((n : Nat) : Int)), (21, .int .i64 ((x.1 : Nat) : Int))]) (fun (x : (Nat × (Nat × Nat) × List Th × Option Addr × Nat × Nat)) v => Al W v x.2.1.1 x.2.1.2 gr most x.2.2.1 x.2.2.2.1 x.2.2.2.2.1 x.2.2.2.2.2 ∧ x.2.2.1.length ≤ x.1 ∧ x.1 ≤ n) (fun x => n - x.1) (0, (g0, m0), [], none, 0, 0) (by exact ⟨fun _ => by kernel_rfl, ⟨fun _ => by kernel_rfl, ⟨fun _ => by kernel_rfl, ⟨fun _ => by kernel_rfl, ⟨fun _ => by kernel_rfl, trivial⟩⟩⟩⟩⟩) ⟨hA0, Nat.le_refl _, Nat.zero_le _⟩ ?_
  rintro ⟨k, ⟨g, m⟩, L, a', n', c'⟩ v ⟨hA, hLk, hkn⟩
  simp only at hA hLk hkn ⊢
  by_cases hlt : k < n
  · skip
    obtain ⟨x, hx⟩ : ∃ x, xs[k]? = some x := ⟨_, List.getElem?_eq_getElem (by rw [← hC.l]; exact hlt)⟩
    obtain ⟨gx, off, rfl, _⟩ := hC.rows k x hx
    have hxo := hC.ok x (List.mem_of_getElem? hx)
    refine cw_seq ?_
    refine cw_region ?_
    refine rw_p 22 (.bool true) (fun _ => by kernel_rfl) (fun _ => ol_conv (v := .bool (decide (((k : Nat) : Int) < ((n : Nat) : Int)))) (by kernel_rfl) (congrArg Value.bool (decide_eq_true (by omega)))) ?_
    refine rw_nil ?_
    refine nw_then ?_
    refine cw_seq ?_
    refine cw_cond_t (fun _ => by kernel_rfl) ?_
    refine cw_skip ?_
    refine nw_then ?_
    refine cw_seq ?_
    refine cw_block ?_
    refine cw_seq ?_
    refine cw_region ?_
    refine rw_p 23 (.pointer (some ⟨gx, off + k * 35, none⟩)) (fun _ => by kernel_rfl) (fun _ => ol_index 22 _ _ gx off k n c 35 32 rfl (by kernel_rfl) (by kernel_rfl) hlt Try.underlying22 (by kernel_rfl)) ?_
    refine rw_p 24 (.agg x.cells.toArray) (fun _ => by kernel_rfl) (fun _ => ol_op hC hA.bel hx _ rfl (by kernel_rfl)) ?_
    refine rw_new 9 zop 32 (fun _ => by kernel_rfl) (fun _ => by kernel_rfl) ?_
    intro vA go hnO
    refine rw_put go x.cells.toArray (fun _ => by kernel_rfl) (fun _ => ol_store 32 _ _ _ _ _ _ rfl (by kernel_rfl) (by kernel_rfl) hnO.row (by rw [op_size hxo.1]; kernel_rfl) (by rw [op_size hxo.1]; rfl) (op_ones x)) ?_
    intro vB hpO
    have hnb := hnO.put hpO
    have hA1 := hA.go hnb.below
    have hO : CBx go vB x := hnb.row
    refine rw_nil ?_
    refine nw_then ?_
    refine cw_seq ?_
    refine cw_seq ?_
    refine cw_region ?_
    refine rw_p 25 (.pointer (some ⟨go, 0, none⟩)) (fun _ => by kernel_rfl) (fun _ => by kernel_rfl) ?_
    refine rw_p 26 (.int .i64 x.k) (fun _ => by kernel_rfl) (fun _ => ol_cell 3 _ _ _ _ rfl (by kernel_rfl) hO.c0 Try.underlying3 rfl) ?_
    refine rw_p 27 (.bool ((x.k : Int) == (5 : Int))) (fun _ => by kernel_rfl) (fun _ => by kernel_rfl) ?_
    refine rw_nil ?_
    refine nw_then ?_
    cases hq2 : ((x.k : Int) == (5 : Int)) with
    | true =>
      refine cw_cond_t (fun _ => by kernel_rfl) ?_
      refine cw_seq ?_
      refine cw_region ?_
      refine rw_p 28 (.pointer (some ⟨g, 0, none⟩)) (fun _ => by kernel_rfl) (fun _ => by kernel_rfl) ?_
      refine rw_call 29 10 #[.pointer (some ⟨g, 0, none⟩)] (fun _ => by kernel_rfl) (fun _ => by kernel_rfl) (R := fun val w' => ∃ g2 m2, val = .pointer (some ⟨g2, 0, none⟩) ∧ Sto w' g2 m2 most L ∧ vB.heap.size ≤ g2 ∧ vB.heap.size ≤ m2 ∧ Below vB.heap.size vB w') ((clone_any hA1.st).mono (fun e w' h => by obtain ⟨⟨g2, m2, rfl, h1, h2, h3⟩, hb⟩ := h; exact ⟨_, rfl, g2, m2, rfl, h1, h2, h3, hb⟩)) ?_
      rintro val u3 ⟨g2, m2, rfl, hst2, hg2, hm2, hb2⟩
      have hA2 : Al W u3 g2 m2 gr most L a' n' c' := ⟨hst2, hA1.rb.go hb2, hA1.ls.go hb2, hA1.iv, below_go hA1.bel hb2, ⟨by have := hA1.bel.size; omega, by have := hA1.bel.size; omega, hA1.hg.2.2⟩, by have := lt_of_get hA1.rb; omega⟩
      refine rw_p 5 (.pointer (some ⟨g2, 0, none⟩)) (fun _ => by kernel_rfl) (fun _ => by kernel_rfl) ?_
      refine rw_nil ?_
      refine nw_then ?_
      refine cw_seq ?_
      refine cw_seq ?_
      refine cw_region ?_
      refine rw_p 30 (.pointer (some ⟨g2, 0, none⟩)) (fun _ => by kernel_rfl) (fun _ => by kernel_rfl) ?_
      refine rw_p 31 (.bool false) (fun _ => by kernel_rfl) (fun _ => by kernel_rfl) ?_
      refine rw_nil ?_
      refine nw_then ?_
      refine cw_cond_f (fun _ => by kernel_rfl) ?_
      refine cw_skip ?_
      refine nw_then ?_
      refine cw_exit ?_
      refine nw_exit_then ?_
      refine nw_exit_here ?_
      refine nw_then ?_
      refine cw_region ?_
      refine rw_p 41 (.int .i64 (((k : Nat) : Int) + 1)) (fun _ => by kernel_rfl) (fun _ => ol_conv (v := .int .i64 (IntKind.i64.wrap (((k : Nat) : Int) + 1))) (by kernel_rfl) (congrArg (Value.int .i64) (wrap64 (by omega) (by omega)))) ?_
      refine rw_p 21 (.int .i64 (((k : Nat) : Int) + 1)) (fun _ => by kernel_rfl) (fun _ => by kernel_rfl) ?_
      refine rw_nil ?_
      exact nw_round (E := fun x : (Nat × (Nat × Nat) × List Th × Option Addr × Nat × Nat) => [(5, .pointer (some ⟨x.2.1.1, 0, none⟩)), (7, .pointer (some ⟨gr, 0, none⟩)), (19, .slice (some ⟨gx, off, none⟩) n c), (20, .int .i64 ((n : Nat) : Int)), (21, .int .i64 ((x.1 : Nat) : Int))]) (R := fun (x : (Nat × (Nat × Nat) × List Th × Option Addr × Nat × Nat)) v => Al W v x.2.1.1 x.2.1.2 gr most x.2.2.1 x.2.2.2.1 x.2.2.2.2.1 x.2.2.2.2.2 ∧ x.2.2.1.length ≤ x.1 ∧ x.1 ≤ n) (μ := fun x => n - x.1) (x := (k, (g, m), L, a', n', c')) (k + 1, (g2, m2), L, a', n', c') (by exact ⟨fun _ => by kernel_rfl, ⟨fun _ => by kernel_rfl, ⟨fun _ => by kernel_rfl, ⟨fun _ => by kernel_rfl, ⟨fun _ => by kernel_rfl, trivial⟩⟩⟩⟩⟩) ⟨hA2, by simp only; omega, by simp only; omega⟩ (by simp only; omega)
    | false =>
      refine cw_cond_f (fun _ => by kernel_rfl) ?_
      refine cw_skip ?_
      refine nw_then ?_
      refine cw_seq ?_
      refine cw_region ?_
      refine rw_p 33 (.pointer (some ⟨g, 0, none⟩)) (fun _ => by kernel_rfl) (fun _ => by kernel_rfl) ?_
      refine rw_p 34 (.agg #[.int .i64 most, .slice a' n' c']) (fun _ => by kernel_rfl) (fun _ => ol_row 28 _ _ _ _ _ _ rfl (by kernel_rfl) hA1.rb Try.underlying28 rfl (by kernel_rfl)) ?_
      refine rw_p 35 (.agg x.cells.toArray) (fun _ => by kernel_rfl) (fun _ => ol_row 32 _ _ _ _ _ _ rfl (by kernel_rfl) hO Try.underlying32 rfl (by rw [op_size hxo.1]; kernel_rfl)) ?_
      refine rw_call 36 11 #[.pointer (some ⟨g, 0, none⟩), .agg #[.int .i64 most, .slice a' n' c'], .agg x.cells.toArray] (fun _ => by kernel_rfl) (fun _ => by kernel_rfl) (R := fun val w' => (∃ a2 n2 c2, val = .tuple #[.agg #[.int .i64 most, .slice a2 n2 c2], .bool true] ∧ Ls w' a2 n2 c2 (stepL most x L)) ∧ Sto w' g m most (stepL most x L) ∧ Touch m vB w') ((step_any hA1.st hA1.ls hA1.iv x hxo.1 hxo.2 (by rw [hA1.len]; omega)).mono (fun e w' h => by obtain ⟨⟨a2, n2, c2, rfl, h1⟩, h2⟩ := h; exact ⟨_, rfl, ⟨a2, n2, c2, rfl, h1⟩, h2⟩)) ?_
      rintro val u4 ⟨⟨a2, n2, c2, rfl, hls2⟩, hst2, ht2⟩
      refine rw_p 32 (.tuple #[.agg #[.int .i64 most, .slice a2 n2 c2], .bool true]) (fun _ => by kernel_rfl) (fun _ => by kernel_rfl) ?_
      refine rw_p 37 (.agg #[.int .i64 most, .slice a2 n2 c2]) (fun _ => by kernel_rfl) (fun _ => by kernel_rfl) ?_
      refine rw_p 38 (.bool true) (fun _ => by kernel_rfl) (fun _ => by kernel_rfl) ?_
      refine rw_put gr #[.int .i64 most, .slice a2 n2 c2] (fun _ => by kernel_rfl) (fun _ => ol_store 28 _ _ _ _ _ _ rfl (by kernel_rfl) (by kernel_rfl) (ht2.row hA1.rb hA1.ne.2) (by kernel_rfl) rfl (s_one _ _ _ _)) ?_
      intro vD hpD
      have hA2 := hA1.step hst2 hls2 ht2 (stepL_iv hA1.iv hxo.1 hxo.2) hpD
      refine rw_p 6 (.bool true) (fun _ => by kernel_rfl) (fun _ => by kernel_rfl) ?_
      refine rw_nil ?_
      refine nw_then ?_
      refine cw_seq ?_
      refine cw_region ?_
      refine rw_p 39 (.bool true) (fun _ => by kernel_rfl) (fun _ => by kernel_rfl) ?_
      refine rw_p 40 (.bool false) (fun _ => by kernel_rfl) (fun _ => by kernel_rfl) ?_
      refine rw_nil ?_
      refine nw_then ?_
      refine cw_cond_f (fun _ => by kernel_rfl) ?_
      refine cw_skip ?_
      refine nw_block ?_
      refine nw_then ?_
      refine cw_region ?_
      refine rw_p 41 (.int .i64 (((k : Nat) : Int) + 1)) (fun _ => by kernel_rfl) (fun _ => ol_conv (v := .int .i64 (IntKind.i64.wrap (((k : Nat) : Int) + 1))) (by kernel_rfl) (congrArg (Value.int .i64) (wrap64 (by omega) (by omega)))) ?_
      refine rw_p 21 (.int .i64 (((k : Nat) : Int) + 1)) (fun _ => by kernel_rfl) (fun _ => by kernel_rfl) ?_
      refine rw_nil ?_
      exact nw_round (E := fun x : (Nat × (Nat × Nat) × List Th × Option Addr × Nat × Nat) => [(5, .pointer (some ⟨x.2.1.1, 0, none⟩)), (7, .pointer (some ⟨gr, 0, none⟩)), (19, .slice (some ⟨gx, off, none⟩) n c), (20, .int .i64 ((n : Nat) : Int)), (21, .int .i64 ((x.1 : Nat) : Int))]) (R := fun (x : (Nat × (Nat × Nat) × List Th × Option Addr × Nat × Nat)) v => Al W v x.2.1.1 x.2.1.2 gr most x.2.2.1 x.2.2.2.1 x.2.2.2.2.1 x.2.2.2.2.2 ∧ x.2.2.1.length ≤ x.1 ∧ x.1 ≤ n) (μ := fun x => n - x.1) (x := (k, (g, m), L, a', n', c')) (k + 1, (g, m), stepL most x L, a2, n2, c2) (by exact ⟨fun _ => by kernel_rfl, ⟨fun _ => by kernel_rfl, ⟨fun _ => by kernel_rfl, ⟨fun _ => by kernel_rfl, ⟨fun _ => by kernel_rfl, trivial⟩⟩⟩⟩⟩) ⟨hA2, by have := stepL_len most x L; simp only; omega, by simp only; omega⟩ (by simp only; omega)
  refine cw_seq ?_
  refine cw_region ?_
  refine rw_p 22 (.bool false) (fun _ => by kernel_rfl) (fun _ => ol_conv (v := .bool (decide (((k : Nat) : Int) < ((n : Nat) : Int)))) (by kernel_rfl) (congrArg Value.bool (decide_eq_false (by omega)))) ?_
  refine rw_nil ?_
  refine nw_then ?_
  refine cw_seq ?_
  refine cw_cond_f (fun _ => by kernel_rfl) ?_
  refine cw_exit ?_
  refine nw_exit_then ?_
  refine nw_exit_then ?_
  refine nw_exit_here ?_
  refine nw_then ?_
  refine cw_seq ?_
  refine cw_draw (fun v => Al W v g m gr most L a' n' c') (by kernel_rfl) (hA.drew) ?_
  refine dw_take 0 42 (.pointer (some ⟨g, 0, none⟩)) rfl (by kernel_rfl) (fun _ _ _ h => h) (fun _ => by kernel_rfl) (fun v hv _ => by kernel_rfl) hA.drew ?_
  refine dw_take 2 44 (.agg #[.int .i64 most, .slice a' n' c']) rfl (by kernel_rfl) (fun _ _ _ h => h) (fun _ => by kernel_rfl) (fun v hv _ => ol_row 28 _ _ _ _ _ _ rfl (by kernel_rfl) hv.rb Try.underlying28 rfl (by kernel_rfl)) hA.drew ?_
  refine dw_ready [1] (by kernel_rfl) (by simp) ?_
  refine ar_call 1 43 13 #[.pointer (some ⟨g, 0, none⟩)] rfl (fun _ => by kernel_rfl) (fun _ => by kernel_rfl) (R := fun val w' => (∃ a1 n1 c1 M1, val = .slice a1 n1 c1 ∧ Ds w' a1 n1 c1 M1 ∧ Srt M1 ∧ M1.Perm (L.map Th.d)) ∧ Below (v.drew).heap.size (v.drew) w') ((list_any hA.drew.st hA.drew.iv (by omega)).mono (fun e w' h => by obtain ⟨⟨a1, n1, c1, M1, rfl, h⟩, hb⟩ := h; exact ⟨_, rfl, ⟨a1, n1, c1, M1, rfl, h⟩, hb⟩)) (fun val w' h => hA.drew.go h.2) ?_ ar_nil
  rintro val u5 ⟨⟨a1, n1, c1, M1, rfl, hd1, hs1, hp1⟩, hb6⟩
  have Su5 := hA.drew.go hb6
  refine dw_ready [3] (by kernel_rfl) (by simp) ?_
  refine ar_call 3 45 14 #[.agg #[.int .i64 most, .slice a' n' c']] rfl (fun _ => by kernel_rfl) (fun _ => by kernel_rfl) (R := fun val w' => (∃ a2 n2 c2 M2, val = .slice a2 n2 c2 ∧ Ds w' a2 n2 c2 M2 ∧ Srt M2 ∧ M2.Perm (L.map Th.d)) ∧ Below (u5).heap.size (u5) w') ((rlist_any most a' n' c' L (u5) Su5.ls Su5.iv.nd (by rw [Su5.len]; omega)).mono (fun e w' h => by obtain ⟨⟨a1, n1, c1, M1, rfl, h⟩, hb⟩ := h; exact ⟨_, rfl, ⟨a1, n1, c1, M1, rfl, h⟩, hb⟩)) (fun val w' h => Su5.go h.2) ?_ ar_nil
  rintro val u7 ⟨⟨a2, n2, c2, M2, rfl, hd2, hs2, hp2⟩, hb8⟩
  have Su7 := Su5.go hb8
  replace hd1 := hd1.go hb8
  obtain rfl : M1 = M2 := srt_eq hs1 hs2 (hp1.trans hp2.symm)
  refine dw_ready [4] (by kernel_rfl) (by simp) ?_
  refine ar_call 4 46 12 #[.slice a1 n1 c1, .slice a2 n2 c2] rfl (fun _ => by kernel_rfl) (fun _ => by kernel_rfl) (R := fun val w' => val = .bool true ∧ Below (u7).heap.size (u7) w') ((same_any hd1 hd2).mono (fun e w' h => ⟨_, h.1, by simp, h.2⟩)) (fun val w' h => Su7.go h.2) ?_ ar_nil
  rintro val u9 ⟨rfl, hb10⟩
  have Su9 := Su7.go hb10
  refine dw_take 5 47 (.bool true) rfl (by kernel_rfl) (fun _ _ _ h => h) (fun _ => by kernel_rfl) (fun v hv _ => by kernel_rfl) Su9 ?_
  refine dw_take 6 48 (.pointer (some ⟨g, 0, none⟩)) rfl (by kernel_rfl) (fun _ _ _ h => h) (fun _ => by kernel_rfl) (fun v hv _ => by kernel_rfl) Su9 ?_
  refine dw_take 8 50 (.pointer (some ⟨gr, 1, none⟩)) rfl (by kernel_rfl) (fun _ _ _ h => h) (fun _ => by kernel_rfl) (fun v hv _ => by kernel_rfl) Su9 ?_
  refine dw_take 9 51 (.slice a' n' c') rfl (by kernel_rfl) (fun _ _ _ h => h) (fun _ => by kernel_rfl) (fun v hv _ => ol_cell 26 _ _ _ _ rfl (by kernel_rfl) hv.rb.c1 Try.underlying26 rfl) Su9 ?_
  refine dw_take 10 52 (.int .i64 n') rfl (by kernel_rfl) (fun _ _ _ h => h) (fun _ => by kernel_rfl) (fun v hv _ => by kernel_rfl) Su9 ?_
  refine dw_ready [7] (by kernel_rfl) (by simp) ?_
  refine ar_call 7 49 15 #[.pointer (some ⟨g, 0, none⟩)] rfl (fun _ => by kernel_rfl) (fun _ => by kernel_rfl) (R := fun val w' => val = .int .i64 ((L.length : Nat) : Int) ∧ w' = u9) ((len_any Su9.st).mono (fun e w' h => ⟨_, h.1, rfl, h.2⟩)) (fun val w' h => by rw [h.2]; exact Su9) ?_ ar_nil
  rintro val _ ⟨rfl, rfl⟩
  have Su11 := Su9
  refine dw_take 11 53 (.bool true) rfl (by kernel_rfl) (fun _ _ _ h => h) (fun _ => by kernel_rfl) (fun v hv => (fun _ => ol_conv (v := .bool (((L.length : Nat) : Int) == (n' : Int))) (by kernel_rfl) (congrArg Value.bool (by rw [hA.len]; simp)))) Su11 ?_
  refine dw_take 12 54 (.bool true) rfl (by kernel_rfl) (fun _ _ _ h => h) (fun _ => by kernel_rfl) (fun v hv _ => by kernel_rfl) Su11 ?_
  refine dw_take 13 4 (.bool true) rfl (by kernel_rfl) (fun _ _ _ h => h) (fun _ => by kernel_rfl) (fun v hv _ => by kernel_rfl) Su11 ?_
  refine dw_done (by kernel_rfl) ?_
  refine nw_then ?_
  refine cw_ret ?_
  exact nw_ret_body (.bool true) (fun _ => by kernel_rfl) ⟨rfl, Su11.bel⟩
end Go.Proofs.Ytjpcfdhkgfaeeaa

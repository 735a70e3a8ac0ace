/- Ranges over functions, yields, walks over maps, for the walk by environments. -/
import Derived.Test.YtjpcfdhkgfaeeaaG16
import Derived.RangeFuncNested
import Derived.Maps.RangeRun
import Derived.Deep.WholeRow
import Derived.Test.YtjpcfdhkgfaeeaaG13
namespace Go.Proofs.Ytjpcfdhkgfaeeaa
open Go.RowKit
open Go.ChangeMaps (setBlock)
set_option linter.unusedVariables false
set_option maxRecDepth 100000
section
variable {r : Option Nat} {m : Nat} {P : Program} {ds : List Deferred} {n : Nat} {Q : Exit → Act → World → Prop} {env : Env} {w w' : World} {ops : Array Oper} {l : List Oper} {o : Oper}
theorem rw_callIn (d : Nat) (f : FuncId) (args : Array Value) (hc : ∀ fb, chk n ops env fb o d = true) (hr : ∀ fb, (execOp (ev env fb) o).run P w = .ok (.enter f args) w) {R : Value → World → Prop}
    (hcall : CallsIn Fence.wide (m - 1) P f args w fun e w' => ∃ v, e = .returned v ∧ R v w') (h : ∀ v w', R v w' → RW r m P ds n Q ops l ((d, v) :: env) w') : RW r m P ds n Q ops (o :: l) env w := fun a ha => by
  obtain ⟨h1, h2, h3, hnd⟩ := chk_spec (hc (fun t => a.tmps.getD t undef))
  refine wpListIn_step fun K hK => ?_
  rw [ha.want, if_pos h3]
  refine ⟨fun f _ => trivial, ?_⟩
  rw [Oper.semAt_eq _ _ _ hnd, ha.ev, hr, Oper.uponIn_enter]
  refine ⟨fun h => absurd h Bool.false_ne_true, ?_⟩
  refine CallsIn.mono' (F := fz r) hcall ?_
  rintro e w' ⟨v, rfl, hR⟩
  rw [h1]
  exact hK _ _ (h v w' hR _ (fr_put ha h2 v))
theorem rw_yield (d : Nat) (lp : Nat) (args : Array Value) (hc : ∀ fb, chk n ops env fb o d = true) (hr : ∀ fb, (execOp (ev env fb) o).run P w = (Instr.yield lp args).run P w) {R : Ending → World → Prop}
    (hY : YieldAt Fence.wide (m - 1) P lp args w R) (h : ∀ e w', R e w' → ∃ v, e = .returned v ∧ RW r m P ds n Q ops l ((d, v) :: env) w') : RW r m P ds n Q ops (o :: l) env w := fun a ha => by
  obtain ⟨h1, h2, h3, hnd⟩ := chk_spec (hc (fun t => a.tmps.getD t undef))
  obtain ⟨fn, tmps, assign, body, hy, hR⟩ := hY
  refine wpListIn_step fun K hK => ?_
  rw [ha.want, if_pos h3]
  refine ⟨fun f _ => trivial, ?_⟩
  rw [Oper.semAt_eq _ _ _ hnd, ha.ev, hr, hy, Oper.uponIn_round]
  refine ⟨fun h => absurd h Bool.false_ne_true, ?_⟩
  refine RoundIn.mono (F := fz r) hR ?_
  intro e w' hq
  obtain ⟨v, rfl, hw⟩ := h e w' hq
  show K (a.put o.dst v) w'
  rw [h1]
  exact hK _ _ (hw _ (fr_put ha h2 v))
/-- 'for x := range seq': every round goes on. -/
theorem cw_range1 {α : Type} {g : Operand} {p : Tmp} {assign body : Code} (gf : Nat) (lb : Array Value) (hg : ∀ fb, ev env fb g = .func (.func gf) #[] lb) (hm : 1 ≤ m) (hp : p < n) (eg : ∀ args w, (callFunc gf args).run P w = .ok (.enter gf args) w)
    {enc : α → Value} {Kp : World → World → Prop} {S Sp : List α → Prop} {N : Nat} {w0 : World} (hseq : SeqStopsK Fence.wide (m - 1) P gf lb (fun x => #[enc x]) Kp S Sp N w0)
    (hKt : ∀ {A B C : World}, Kp A B → Kp B C → Kp A C) (hKb : ∀ (W : World) (l : Nat) (o o' : Obj), w.heap.size ≤ l → W.heap[l]? = some o → o.isCells = false → o.isWalk = false → Kp W (W.putObj l o')) (hb0 : Below w0.heap.size w0 w)
    (I : List α → World → Prop) (hI : OwnFrom w.heap.size I) (h0 : I [] w) (Ax : α → Env → World → Prop) (hAx : ∀ x e, OwnFrom w.heap.size (fun (_ : Unit) W => Ax x e W))
    (hassign : ∀ (l : Nat) (pre : List α) (x : α) (W : World), I pre W → CW (some l) (m - 1 - 1) P [] n (Exit.then (fun a' W' => KeepsFrom w.heap.size W W' ∧ Kp W W' ∧ I pre W' ∧ ∃ e, Fr [] n e a' ∧ Ax x e W') (fun _ _ _ => False)) assign ((p, enc x) :: env) W)
    (hbody : ∀ (l : Nat) (pre : List α) (x : α) (e : Env) (W : World), w.heap.size ≤ l → I pre W → Ax x e W → pre.length < N → CW (some l) (m - 1 - 1) P [] n (ownPostG w.heap.size Kp I (fun _ _ _ => False) (pre ++ [x]) W) body e W)
    (hdone : ∀ (D : Nat) (xs : List α) (W : World), w.heap.size ≤ D → S xs → I xs W → W.heap[D]? = some (.deferred (some [])) → NW [{ target := .collected D, args := #[] }] n Q .normal env W) :
    CW none m P [] n Q (.rangeFunc g #[p] assign body) env w := fun a ha => by
  refine wpIn_rangeFunc_ownH (F := Fence.wide) rfl hm (by rw [ha.ev]; exact hg _) trivial eg hseq hKt hKb hb0 (fun x => rfl) I (fun _ _ _ => False) hI (fun _ _ _ _ _ hs _ _ => hs) h0 (fun x a' W => ∃ e, Fr [] n e a' ∧ Ax x e W)
    (fun x a' => fun _ W W' row hs hgr hr => by obtain ⟨e, hF, hA⟩ := hs; exact ⟨e, hF, hAx x e () W W' row hA hgr hr⟩) ?_ ?_ ?_ (fun D c pre W _ _ hx _ => hx.elim)
  · intro l pre x W K hi hK
    have hfr : Fr [] n ((p, enc x) :: env) { tmps := ((#[p] : Array Tmp).zip #[enc x]).foldl (fun t (p, v) => t.setIfInBounds p v) a.tmps, defers := [] } := by
      have := fr_put (⟨rfl, ha.sz, ha.get⟩ : Fr [] n env { tmps := a.tmps, defers := [] }) hp (enc x)
      have e : ((#[p] : Array Tmp).zip #[enc x]).foldl (fun t (p, v) => t.setIfInBounds p v) a.tmps = a.tmps.setIfInBounds p (enc x) := by simp
      rw [e]
      exact this
    refine wpIn_mono (hassign l pre x W hi _ hfr) ?_
    intro e a' W' hq
    cases e with
    | normal => exact hK a' W' hq.1 hq.2.1 hq.2.2.1 hq.2.2.2
    | exit id => exact hq
    | goto l => exact hq
    | ret => exact hq
    | panic ch => exact hq
    | outgrown => exact hq
  · rintro l pre x a' W hl _ hi ⟨e, hF, hA⟩ hlen
    exact hbody l pre x e W hl hi hA hlen a' hF
  · intro D xs W hD hs hi hd
    refine hdone D xs W hD hs hi hd _ ⟨?_, ha.sz, ha.get⟩
    show _ :: a.defers = _
    rw [ha.df]
theorem nw_own {α : Type} {B : Nat} {Kp : World → World → Prop} {I : List α → World → Prop} {Ix : Code → List α → World → Prop} {xs : List α} {W : World} (h1 : KeepsFrom B W w) (h2 : Kp W w) (h3 : I xs w) : NW ds n (ownPostG B Kp I Ix xs W) .normal env w := fun a ha => ⟨h1, h2, h3⟩
theorem nw_ret_marks {fn : Func} {R : Ending → World → Prop} {D : Nat} (hK : w.heap[D]? = some (.deferred (some []))) (v : Value) (hr : ∀ fb, (resF (lkF env fb) fn.results).run P (w.putObj D (.deferred none)) = .ok v (w.putObj D (.deferred none))) (hR : R (.returned v) (w.putObj D (.deferred none))) :
    NW [{ target := .collected D, args := #[] }] n (bodyPostM Fence.wide m P fn R) .ret env w := fun a ha => by
  show LeavesInM Fence.wide m P fn a.tmps R a.defers .returning w
  rw [ha.df]
  refine ⟨by simp, .inl ⟨_, _, rfl, run_takeDeferred hK, ?_⟩⟩
  refine ⟨v, ?_, hR⟩
  rw [results_resF, show (fun t => a.tmps.getD t undef) = lkF env (fun t => a.tmps.getD t undef) from funext ha.get]
  exact hr _
end
section
variable {P : Program} {ρ : Operand → Value} {w w' : World} {o : Oper}
theorem ol_next (x : Operand) (b : Bool) (p v : Value) (ho : o.op = .next x b) (hx : ρ x = p) (hr : (Instr.next p b o.type).run P w = .ok v w') : (execOp ρ o).run P w = .ok (.value v) w' := by
  unfold execOp
  rw [ho]
  simp only [hx, Sem.run_bind, hr, Result.andThen_ok, Sem.run_pure]
theorem ol_entry (x : Operand) (p v : Value) (ho : o.op = .entry x) (hx : ρ x = p) (hr : (Instr.entry p).run P w = .ok v w') : (execOp ρ o).run P w = .ok (.value v) w' := by
  unfold execOp
  rw [ho]
  simp only [hx, Sem.run_bind, hr, Result.andThen_ok, Sem.run_pure]
theorem ol_rangeM (T k e : TypeId) (x : Operand) (bm : Nat) (es : Array MapEntry) (clock : Nat) (ho : o.op = .range T x) (hx : ρ x = .map (some bm)) (ht : P.underlying T = some (.map k e)) (hb : w.heap[bm]? = some (.map es clock)) :
    (execOp ρ o).run P w = .ok (.value (.pointer (some ⟨w.heap.size, 0, none⟩))) (w.alloc (.mapIter (some bm) clock #[] clock)) := by
  unfold execOp
  rw [ho]
  simp only [hx, Sem.run_bind, run_range_map w T k e bm es clock ht hb, Result.andThen_ok, Sem.run_pure]
end
theorem KeepsOthers.setRow (W : World) (g : Nat) (cs : Array Value) : KeepsOthers W (W.setRow g cs) := ⟨by simp, fun k o hk ho => by
  by_cases e : k = g
  · subst e
    obtain ⟨hlt, hk'⟩ := Array.getElem?_eq_some_iff.1 hk
    unfold World.setRow
    show (W.heap.modify k _)[k]? = some o
    rw [Array.getElem?_eq_getElem (by rw [Array.size_modify]; exact hlt), Array.getElem_modify_self, hk']
    cases o <;> first | rfl | (simp [Obj.isCells] at ho)
  · exact (setRow_other _ _ _ _ e).trans hk⟩
theorem Put.keeps {w w' : World} {g : Nat} {cells : Array Value} (h : Put w w' g cells) : KeepsOthers w w' := by rw [h.hw]; exact KeepsOthers.setRow _ _ _
theorem New.keeps {w w' : World} {g : Nat} {cells : Array Value} {T : TypeId} (h : New w w' g cells T) : KeepsOthers w w' := by rw [h.hw]; exact KeepsOthers.alloc _ _
/-- A new block that is filled at once. -/
theorem New.put {w w1 w2 : World} {g : Nat} {z cells : Array Value} {T : TypeId} (h : New w w1 g z T) (hp : Put w1 w2 g cells) : New w w2 g cells T := ⟨h.hg, by rw [hp.hw, h.hw, h.hg]; exact World.setRow_alloc_new _ _ _ _⟩
end Go.Proofs.Ytjpcfdhkgfaeeaa
/- The keys of a store's map, as an iterator tells them; the list that is collected of them. -/
namespace Go.Proofs.Ytjpcfdhkgfaeeaa
open Go.RowKit
open Go.ChangeMaps (setBlock)
set_option linter.unusedVariables false
set_option maxRecDepth 100000
/-- Which entries a walk has told, and which are left. -/
structure Vis (es : Array MapEntry) (seen : Array Nat) (ss : List (List Int)) : Prop where
  ex : ∃ vis : List MapEntry, seen.toList = vis.map (·.born) ∧ vis.map (·.key) = ss.map (fun d => Value.agg (B8 d)) ∧ (vis ++ (leftOf es seen).toList).Perm es.toList
theorem vis_nil (es : Array MapEntry) : Vis es #[] [] := ⟨[], rfl, rfl, by
  rw [List.nil_append, show (leftOf es #[]).toList = es.toList from by unfold leftOf; rw [Array.toList_filter]; exact List.filter_eq_self.2 (fun x _ => by simp)]⟩
theorem left_push {es : Array MapEntry} {seen : Array Nat} {e : MapEntry} (hn : (es.toList.map (·.born)).Nodup) (he : e ∈ (leftOf es seen).toList) : (e :: (leftOf es (seen.push e.born)).toList).Perm (leftOf es seen).toList := by
  have h1 : (leftOf es (seen.push e.born)).toList = (leftOf es seen).toList.filter (fun x => !(x.born == e.born)) := by
    unfold leftOf
    rw [Array.toList_filter, Array.toList_filter, List.filter_filter]
    refine List.filter_congr fun x _ => ?_
    simp only [Array.contains_push]
    cases seen.contains x.born <;> cases hq : (x.born == e.born) <;> simp_all
  have hn2 : ((leftOf es seen).toList.map (·.born)).Nodup := by
    unfold leftOf
    rw [Array.toList_filter]
    exact hn.sublist (List.filter_sublist.map _)
  rw [h1]
  generalize (leftOf es seen).toList = l at he hn2
  clear h1
  induction l with
  | nil => cases he
  | cons x r ih =>
    rw [List.map_cons, List.nodup_cons] at hn2
    rcases List.mem_cons.1 he with rfl | he
    · have : r.filter (fun x => !(x.born == e.born)) = r := List.filter_eq_self.2 fun y hy => by
        simp only [Bool.not_eq_true', beq_eq_false_iff_ne]
        intro q
        exact hn2.1 (by rw [← q]; exact List.mem_map_of_mem hy)
      simp [this]
    · have hx : (x.born == e.born) = false := by
        rw [beq_eq_false_iff_ne]
        intro q
        exact hn2.1 (by rw [q]; exact List.mem_map_of_mem he)
      rw [List.filter_cons, hx]
      exact (List.Perm.swap x e _).trans ((ih he hn2.2).cons x)
theorem Vis.push {es : Array MapEntry} {seen : Array Nat} {ss : List (List Int)} (h : Vis es seen ss) (hn : (es.toList.map (·.born)).Nodup) {e : MapEntry} (he : e ∈ (leftOf es seen).toList) {d : List Int} (hd : e.key = .agg (B8 d)) : Vis es (seen.push e.born) (ss ++ [d]) := by
  obtain ⟨vis, h1, h2, h3⟩ := h.ex
  refine ⟨vis ++ [e], by simp [h1], by simp [h2, hd], ?_⟩
  rw [List.append_assoc]
  exact ((List.perm_append_left_iff vis).2 (left_push hn he)).trans h3
theorem B8_inj {x y : List Int} (h : Value.agg (B8 x) = Value.agg (B8 y)) : x = y := by
  injection h with h
  have h := congrArg Array.toList h
  unfold B8 at h
  simp only at h
  exact (List.map_inj_right (fun a b e => by injection e)).1 h
/-- A digest's bytes. -/
abbrev Dg := { d : List Int // d.length = 32 }
def vals (xs : List Dg) : List (List Int) := xs.map Subtype.val
theorem vals_app (xs : List Dg) (d : List Int) (h : d.length = 32) : vals (xs ++ [⟨d, h⟩]) = vals xs ++ [d] := by simp [vals]
theorem vals_len (xs : List Dg) : LenD (vals xs) := fun d hd => by obtain ⟨x, _, rfl⟩ := List.mem_map.1 hd; exact x.2
theorem vals_length (xs : List Dg) : (vals xs).length = xs.length := by simp [vals]
def unB : Value → List Int
  | .agg cs => cs.toList.map fun v => match v with | .int _ x => x | _ => 0
  | _ => []
theorem unB_B8 (d : List Int) : unB (.agg (B8 d)) = d := by simp [unB, B8, Function.comp_def]
theorem Vis.done {es : Array MapEntry} {seen : Array Nat} {ss : List (List Int)} (h : Vis es seen ss) (h0 : (leftOf es seen).size = 0) {L : List Th} (he : Ents es.toList L) : ss.Perm (L.map Th.d) := by
  obtain ⟨vis, h1, h2, h3⟩ := h.ex
  have e0 : (leftOf es seen).toList = [] := List.eq_nil_of_length_eq_zero (by simpa using h0)
  rw [e0, List.append_nil] at h3
  have h4 := h3.map (fun e => unB e.key)
  have e1 : vis.map (fun e => unB e.key) = ss := by
    rw [show (fun e : MapEntry => unB e.key) = unB ∘ (fun e : MapEntry => e.key) from rfl, ← List.map_map, h2, List.map_map]
    simp [Function.comp_def, unB_B8]
  have e2 : es.toList.map (fun e => unB e.key) = L.map Th.d := by
    have : es.toList.map (fun e => e.key) = L.map Th.key := by
      have := congrArg (List.map Prod.fst) he
      simpa [List.map_map, Function.comp_def] using this
    rw [show (fun e : MapEntry => unB e.key) = unB ∘ (fun e : MapEntry => e.key) from rfl, ← List.map_map, this, List.map_map]
    simp [Function.comp_def, Th.key, unB_B8]
  rw [e1, e2] at h4
  exact h4
theorem Vis.len {es : Array MapEntry} {seen : Array Nat} {ss : List (List Int)} (h : Vis es seen ss) : ss.length + (leftOf es seen).size = es.size := by
  obtain ⟨vis, h1, h2, h3⟩ := h.ex
  have e1 := congrArg List.length h2
  have e2 := h3.length_eq
  simp at e1 e2
  omega
theorem Ents.key {es : List MapEntry} {L : List Th} (h : Ents es L) {e : MapEntry} (he : e ∈ es) : ∃ x ∈ L, e.key = .agg (B8 x.d) := by
  have : e.key ∈ es.map (fun e => e.key) := List.mem_map_of_mem he
  rw [show es.map (fun e => e.key) = L.map Th.key from by
    have := congrArg (List.map Prod.fst) h
    simpa [List.map_map, Function.comp_def] using this] at this
  obtain ⟨x, hx, e'⟩ := List.mem_map.1 this
  exact ⟨x, hx, e'.symm⟩
theorem setB_walk {W W1 : World} {r : Nat} {o o' : Obj} (hw : W1 = W ∨ W1 = W.drew) (hr : W.heap[r]? = some o) : W.grownBy (setBlock W1 r o') (some r) := by
  rcases hw with rfl | rfl
  · exact ⟨rfl, rfl, rfl, by simp [setBlock], fun k _ hk => setBlock_other (fun e => hk (by rw [e]))⟩
  · exact ⟨rfl, rfl, rfl, by show W.heap.size ≤ (setBlock W r o').heap.size; simp [setBlock], fun k _ hk => setBlock_other (fun e => hk (by rw [e]))⟩
set_option maxHeartbeats 4000000 in
theorem keys_stops (k : Nat) {w : World} {m Bm : Nat} {L : List Th} (h : MapAt w m L) (hB : w.cell? ⟨Bm, 0, none⟩ = some (.map (some m))) :
    SeqStopsK Fence.wide k Try.prog 39 #[.pointer (some ⟨Bm, 0, none⟩)] (fun d : Dg => #[.agg (B8 d.1)]) KeepsWalks (fun xs => (vals xs).Perm (L.map Th.d)) (fun _ => True) L.length w := by
  intro l J Jx W hW hJ hJx hY h0
  obtain ⟨hl, es, clock, hm', he, hbn⟩ := h
  have hm : W.heap[m]? = some (.map es clock) := Below.row hW hm'
  have hbx : W.cell? ⟨Bm, 0, none⟩ = some (.map (some m)) := (hW.cell (p := ⟨Bm, 0, none⟩) (block_lt_of_cell hB)).trans hB
  clear hm'
  show CallsIn Fence.wide k Try.prog 39 #[.func (.yield l) #[] #[], .pointer (some ⟨Bm, 0, none⟩)] W _
  refine cw_enterIn Try.func39 rfl 14 rfl ?_
  show CW _ _ _ _ _ _ _ [(0, .func (.yield l) #[] #[]), (1, .pointer (some ⟨Bm, 0, none⟩))] _
  refine cw_seq ?_
  refine cw_region ?_
  refine rw_p 4 (.map (some m)) (fun _ => by kernel_rfl) (fun _ => ol_cell 67 _ _ _ _ rfl (by kernel_rfl) hbx Try.underlying67 rfl) ?_
  refine rw_v 5 (.pointer (some ⟨W.heap.size, 0, none⟩)) (fun _ => by kernel_rfl) (fun _ => ol_rangeM 67 30 72 _ m es clock rfl (by kernel_rfl) Try.underlying67 hm) ?_
  have hJ0 : J [] (W.alloc (.mapIter (some m) clock #[] clock)) := hJ [] W _ none h0 (World.grownBy_alloc _ _ _) (fun r e => by cases e)
  have hr0 : (W.alloc (.mapIter (some m) clock #[] clock)).heap[W.heap.size]? = some (.mapIter (some m) clock #[] clock) := heap_alloc_new _ _
  have hm0 : (W.alloc (.mapIter (some m) clock #[] clock)).heap[m]? = some (.map es clock) := Below.row ((Below.refl _ _).alloc (Nat.le_refl _) _) hm
  generalize W.alloc (.mapIter (some m) clock #[] clock) = W0 at hJ0 hr0 hm0 ⊢
  refine rw_nil ?_
  refine nw_then ?_
  refine cw_block ?_
  refine cw_loop (X := Array Nat × List Dg) (fun _ => [(0, .func (.yield l) #[] #[]), (5, .pointer (some ⟨W.heap.size, 0, none⟩))]) (fun x v => v.heap[W.heap.size]? = some (.mapIter (some m) clock x.1 clock) ∧ v.heap[m]? = some (.map es clock) ∧ Vis es x.1 (vals x.2) ∧ J x.2 v) (fun x => (leftOf es x.1).size) (#[], []) (by exact ⟨fun _ => by kernel_rfl, ⟨fun _ => by kernel_rfl, trivial⟩⟩) ⟨hr0, hm0, vis_nil es, hJ0⟩ ?_
  rintro ⟨seen, ss⟩ V ⟨hr, hm1, hvis, hJs⟩
  simp only at hr hm1 hvis hJs ⊢
  rcases run_next_at (P := Try.prog) V 0 W.heap.size m clock clock seen es clock hr hm1 hbn.2 (Nat.le_refl _) with ⟨hz, hrun⟩ | ⟨e, hel, w1, hw1, hrun⟩
  · skip
    refine cw_seq ?_
    refine cw_region ?_
    refine rw_p 6 (.tuple #[.bool false]) (fun _ => by kernel_rfl) (fun _ => ol_next _ _ _ _ rfl (by kernel_rfl) hrun) ?_
    refine rw_p 7 (.bool false) (fun _ => by kernel_rfl) (fun _ => by kernel_rfl) ?_
    refine rw_nil ?_
    refine nw_then ?_
    refine cw_seq ?_
    refine cw_cond_f (fun _ => by kernel_rfl) ?_
    refine cw_exit ?_
    refine nw_exit_then ?_
    refine nw_exit_then ?_
    refine nw_exit_here ?_
    exact nw_end_body (.tuple #[]) (fun _ => by kernel_rfl) ⟨⟨_, rfl⟩, .inl ⟨ss, hvis.done hz he, hJs⟩⟩
  refine cw_seq ?_
  refine cw_region ?_
  refine rw_v 6 (.tuple #[.bool true, e.key, e.val]) (fun _ => by kernel_rfl) (fun _ => ol_next _ _ _ _ rfl (by kernel_rfl) hrun) ?_
  have hme : e ∈ es.toList := by unfold leftOf at hel; rw [Array.toList_filter] at hel; exact (List.mem_filter.1 hel).1
  obtain ⟨xt, hxt, hed⟩ := he.key hme
  obtain ⟨d, hdx⟩ : ∃ d, xt.d = d := ⟨_, rfl⟩
  have hdl : d.length = 32 := by rw [← hdx]; exact hl xt hxt
  rw [hdx] at hed
  have hg1 := setB_walk (o' := .mapIter (some m) clock (seen.push e.born) clock) hw1 hr
  have hJ1 : J ss (setBlock w1 W.heap.size (.mapIter (some m) clock (seen.push e.born) clock)) := hJ ss V _ (some W.heap.size) hJs hg1 (fun r q => by cases q; exact ⟨Nat.le_refl _, _, hr, rfl⟩)
  have hr1 : (setBlock w1 W.heap.size (.mapIter (some m) clock (seen.push e.born) clock)).heap[W.heap.size]? = some (.mapIter (some m) clock (seen.push e.born) clock) := setBlock_same (o := .mapIter (some m) clock seen clock) (by rcases hw1 with rfl | rfl <;> exact hr)
  have hm1b : (setBlock w1 W.heap.size (.mapIter (some m) clock (seen.push e.born) clock)).heap[m]? = some (.map es clock) := (setBlock_other (by have := lt_of_get hm; omega)).trans (by rcases hw1 with rfl | rfl <;> exact hm1)
  generalize setBlock w1 W.heap.size (.mapIter (some m) clock (seen.push e.born) clock) = V1 at hJ1 hr1 hm1b ⊢
  refine rw_p 7 (.bool true) (fun _ => by kernel_rfl) (fun _ => by kernel_rfl) ?_
  refine rw_nil ?_
  refine nw_then ?_
  refine cw_seq ?_
  refine cw_cond_t (fun _ => by kernel_rfl) ?_
  refine cw_skip ?_
  refine nw_then ?_
  refine cw_block ?_
  refine cw_seq ?_
  refine cw_region ?_
  refine rw_p 8 (.tuple #[.agg (B8 d), e.val]) (fun _ => by kernel_rfl) (fun _ => ol_entry _ _ _ rfl (by kernel_rfl) (by rw [run_entry_at (P := Try.prog) V1 W.heap.size m clock seen es clock e hr1 hm1b hme hbn.1, hed])) ?_
  refine rw_p 9 (.agg (B8 d)) (fun _ => by kernel_rfl) (fun _ => by kernel_rfl) ?_
  refine rw_new 3 (B8 z32) 30 (fun _ => by kernel_rfl) (fun _ => by kernel_rfl) ?_
  intro V2 gb hn
  refine rw_put gb (B8 d) (fun _ => by kernel_rfl) (fun _ => ol_store 30 _ _ _ _ _ _ rfl (by kernel_rfl) (by kernel_rfl) hn.row (infoD d hdl) (z8_size hdl) (B8_ones _)) ?_
  intro V3 hp3
  have hnb := hn.put hp3
  have hJ2 : J ss V3 := hJ ss V1 _ none hJ1 (by rw [hnb.hw]; exact World.grownBy_alloc _ _ _) (fun r q => by cases q)
  have hr2 := Below.row hnb.below hr1
  have hm2 := Below.row hnb.below hm1b
  refine rw_nil ?_
  refine nw_then ?_
  refine cw_seq ?_
  refine cw_region ?_
  refine rw_p 10 (.func (.yield l) #[] #[]) (fun _ => by kernel_rfl) (fun _ => by kernel_rfl) ?_
  refine rw_p 11 (.agg (B8 d)) (fun _ => by kernel_rfl) (fun _ => ol_row 30 _ _ _ _ _ _ rfl (by kernel_rfl) hnb.row Try.underlying30 rfl (infoD d hdl)) ?_
  refine rw_yield 12 l #[.agg (B8 d)] (fun _ => by kernel_rfl) (fun _ => by kernel_rfl) (hY ss ⟨d, hdl⟩ V3 hJ2 (by have h1 := (hvis.push hbn.1 hel hed).len; have h2 := he.len; simp only [List.length_append, List.length_singleton, vals_length] at h1; simp only [Array.length_toList] at h2; omega)) ?_
  rintro ee V4 (⟨rfl, hJ3, hk3⟩ | ⟨rfl, hJx⟩)
  · refine ⟨_, rfl, ?_⟩
    refine rw_p 13 (.bool false) (fun _ => by kernel_rfl) (fun _ => by kernel_rfl) ?_
    refine rw_nil ?_
    refine nw_then ?_
    refine cw_cond_f (fun _ => by kernel_rfl) ?_
    refine cw_skip ?_
    refine nw_block ?_
    exact nw_round (E := fun _ => [(0, .func (.yield l) #[] #[]), (5, .pointer (some ⟨W.heap.size, 0, none⟩))]) (R := fun x v => v.heap[W.heap.size]? = some (.mapIter (some m) clock x.1 clock) ∧ v.heap[m]? = some (.map es clock) ∧ Vis es x.1 (vals x.2) ∧ J x.2 v) (μ := fun x => (leftOf es x.1).size) (x := (seen, ss)) (seen.push e.born, ss ++ [⟨d, hdl⟩]) (by exact ⟨fun _ => by kernel_rfl, ⟨fun _ => by kernel_rfl, trivial⟩⟩) ⟨hk3.same _ _ hr2 rfl, hk3.same _ _ hm2 rfl, by show Vis es _ (vals _); rw [vals_app]; exact hvis.push hbn.1 hel hed, hJ3⟩ (by have h1 := (hvis.push hbn.1 hel hed).len; have h2 := hvis.len; simp only [List.length_append, List.length_singleton] at h1; simp only; omega)
  refine ⟨_, rfl, ?_⟩
  refine rw_p 13 (.bool true) (fun _ => by kernel_rfl) (fun _ => by kernel_rfl) ?_
  refine rw_nil ?_
  refine nw_then ?_
  refine cw_cond_t (fun _ => by kernel_rfl) ?_
  refine cw_ret ?_
  refine nw_ret_block ?_
  refine nw_ret_then ?_
  refine nw_ret_block ?_
  exact nw_ret_body (.tuple #[]) (fun _ => by kernel_rfl) ⟨⟨_, rfl⟩, .inr ⟨ss ++ [⟨d, hdl⟩], trivial, hJx⟩⟩
end Go.Proofs.Ytjpcfdhkgfaeeaa

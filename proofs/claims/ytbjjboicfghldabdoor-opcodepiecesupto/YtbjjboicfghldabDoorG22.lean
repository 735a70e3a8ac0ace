/- Ranges over functions, yields, walks over maps, for the walk by environments. -/
import Derived.Test.YtbjjboicfghldabDoorG02
import Derived.RangeFuncNested
import Derived.Maps.RangeRun
import Derived.Deep.WholeRow
namespace Go.Proofs.YtbjjboicfghldabDoor
open Go.RowKit
open Go.ChangeMaps (setBlock)
set_option linter.unusedVariables false
set_option maxRecDepth 100000
section
variable {r : Option Nat} {m : Nat} {P : Program} {ds : List Deferred} {n : Nat} {Q : Exit → Act → World → Prop} {env : Env} {w w' : World} {ops : Array Oper} {l : List Oper} {o : Oper}
theorem rw_callIn (d : Nat) (f : FuncId) (args : Array Value) (hc : ∀ fb, chk n ops env fb o d = true) (hr : ∀ fb, (execOp (ev env fb) o).run P w = .ok (.enter f args) w) {R : Value → World → Prop}
    (hcall : CallsIn Fence.wide (m - 1) P f args w fun e w' => ∃ v, e = .returned v ∧ R v w') (h : ∀ v w', R v w' → RW r m P ds n Q ops l ((d, v) :: env) w') : RW r m P ds n Q ops (o :: l) env w := fun a ha => by
  obtain ⟨h1, h2, h3, hnd⟩ := chk_spec (hc (fun t => a.tmps.getD t undef))
  refine wpListIn_step fun K hK => ?_
  rw [ha.want, if_pos h3]
  refine ⟨fun f _ => trivial, ?_⟩
  rw [Oper.semAt_eq _ _ _ hnd, ha.ev, hr, Oper.uponIn_enter]
  refine ⟨fun h => absurd h Bool.false_ne_true, ?_⟩
  refine CallsIn.mono' (F := fz r) hcall ?_
  rintro e w' ⟨v, rfl, hR⟩
  rw [h1]
  exact hK _ _ (h v w' hR _ (fr_put ha h2 v))
theorem rw_yield (d : Nat) (lp : Nat) (args : Array Value) (hc : ∀ fb, chk n ops env fb o d = true) (hr : ∀ fb, (execOp (ev env fb) o).run P w = (Instr.yield lp args).run P w) {R : Ending → World → Prop}
    (hY : YieldAt Fence.wide (m - 1) P lp args w R) (h : ∀ e w', R e w' → ∃ v, e = .returned v ∧ RW r m P ds n Q ops l ((d, v) :: env) w') : RW r m P ds n Q ops (o :: l) env w := fun a ha => by
  obtain ⟨h1, h2, h3, hnd⟩ := chk_spec (hc (fun t => a.tmps.getD t undef))
  obtain ⟨fn, tmps, assign, body, hy, hR⟩ := hY
  refine wpListIn_step fun K hK => ?_
  rw [ha.want, if_pos h3]
  refine ⟨fun f _ => trivial, ?_⟩
  rw [Oper.semAt_eq _ _ _ hnd, ha.ev, hr, hy, Oper.uponIn_round]
  refine ⟨fun h => absurd h Bool.false_ne_true, ?_⟩
  refine RoundIn.mono (F := fz r) hR ?_
  intro e w' hq
  obtain ⟨v, rfl, hw⟩ := h e w' hq
  show K (a.put o.dst v) w'
  rw [h1]
  exact hK _ _ (hw _ (fr_put ha h2 v))
/-- 'for x := range seq': every round goes on. -/
theorem cw_range1 {α : Type} {g : Operand} {p : Tmp} {assign body : Code} (gf : Nat) (lb : Array Value) (hg : ∀ fb, ev env fb g = .func (.func gf) #[] lb) (hm : 1 ≤ m) (hp : p < n) (eg : ∀ args w, (callFunc gf args).run P w = .ok (.enter gf args) w)
    {enc : α → Value} {Kp : World → World → Prop} {S Sp : List α → Prop} {N : Nat} {w0 : World} (hseq : SeqStopsK Fence.wide (m - 1) P gf lb (fun x => #[enc x]) Kp S Sp N w0)
    (hKt : ∀ {A B C : World}, Kp A B → Kp B C → Kp A C) (hKb : ∀ (W : World) (l : Nat) (o o' : Obj), w.heap.size ≤ l → W.heap[l]? = some o → o.isCells = false → o.isWalk = false → Kp W (W.putObj l o')) (hb0 : Below w0.heap.size w0 w)
    (I : List α → World → Prop) (hI : OwnFrom w.heap.size I) (h0 : I [] w) (Ax : α → Env → World → Prop) (hAx : ∀ x e, OwnFrom w.heap.size (fun (_ : Unit) W => Ax x e W))
    (hassign : ∀ (l : Nat) (pre : List α) (x : α) (W : World), I pre W → CW (some l) (m - 1 - 1) P [] n (Exit.then (fun a' W' => KeepsFrom w.heap.size W W' ∧ Kp W W' ∧ I pre W' ∧ ∃ e, Frm [] n e a' ∧ Ax x e W') (fun _ _ _ => False)) assign ((p, enc x) :: env) W)
    (hbody : ∀ (l : Nat) (pre : List α) (x : α) (e : Env) (W : World), w.heap.size ≤ l → I pre W → Ax x e W → pre.length < N → CW (some l) (m - 1 - 1) P [] n (ownPostG w.heap.size Kp I (fun _ _ _ => False) (pre ++ [x]) W) body e W)
    (hdone : ∀ (D : Nat) (xs : List α) (W : World), w.heap.size ≤ D → S xs → I xs W → W.heap[D]? = some (.deferred (some [])) → NW [{ target := .collected D, args := #[] }] n Q .normal env W) :
    CW none m P [] n Q (.rangeFunc g #[p] assign body) env w := fun a ha => by
  refine wpIn_rangeFunc_ownH (F := Fence.wide) rfl hm (by rw [ha.ev]; exact hg _) trivial eg hseq hKt hKb hb0 (fun x => rfl) I (fun _ _ _ => False) hI (fun _ _ _ _ _ hs _ _ => hs) h0 (fun x a' W => ∃ e, Frm [] n e a' ∧ Ax x e W)
    (fun x a' => fun _ W W' row hs hgr hr => by obtain ⟨e, hF, hA⟩ := hs; exact ⟨e, hF, hAx x e () W W' row hA hgr hr⟩) ?_ ?_ ?_ (fun D c pre W _ _ hx _ => hx.elim)
  · intro l pre x W K hi hK
    have hfr : Frm [] n ((p, enc x) :: env) { tmps := ((#[p] : Array Tmp).zip #[enc x]).foldl (fun t (p, v) => t.setIfInBounds p v) a.tmps, defers := [] } := by
      have := fr_put (⟨rfl, ha.sz, ha.get⟩ : Frm [] n env { tmps := a.tmps, defers := [] }) hp (enc x)
      have e : ((#[p] : Array Tmp).zip #[enc x]).foldl (fun t (p, v) => t.setIfInBounds p v) a.tmps = a.tmps.setIfInBounds p (enc x) := by simp
      rw [e]
      exact this
    refine wpIn_mono (hassign l pre x W hi _ hfr) ?_
    intro e a' W' hq
    cases e with
    | normal => exact hK a' W' hq.1 hq.2.1 hq.2.2.1 hq.2.2.2
    | exit id => exact hq
    | goto l => exact hq
    | ret => exact hq
    | panic ch => exact hq
    | outgrown => exact hq
  · rintro l pre x a' W hl _ hi ⟨e, hF, hA⟩ hlen
    exact hbody l pre x e W hl hi hA hlen a' hF
  · intro D xs W hD hs hi hd
    refine hdone D xs W hD hs hi hd _ ⟨?_, ha.sz, ha.get⟩
    show _ :: a.defers = _
    rw [ha.df]
theorem nw_own {α : Type} {B : Nat} {Kp : World → World → Prop} {I : List α → World → Prop} {Ix : Code → List α → World → Prop} {xs : List α} {W : World} (h1 : KeepsFrom B W w) (h2 : Kp W w) (h3 : I xs w) : NW ds n (ownPostG B Kp I Ix xs W) .normal env w := fun a ha => ⟨h1, h2, h3⟩
theorem nw_ret_marks {fn : Func} {R : Ending → World → Prop} {D : Nat} (hK : w.heap[D]? = some (.deferred (some []))) (v : Value) (hr : ∀ fb, (resF (lkF env fb) fn.results).run P (w.putObj D (.deferred none)) = .ok v (w.putObj D (.deferred none))) (hR : R (.returned v) (w.putObj D (.deferred none))) :
    NW [{ target := .collected D, args := #[] }] n (bodyPostM Fence.wide m P fn R) .ret env w := fun a ha => by
  show LeavesInM Fence.wide m P fn a.tmps R a.defers .returning w
  rw [ha.df]
  refine ⟨by simp, .inl ⟨_, _, rfl, run_takeDeferred hK, ?_⟩⟩
  refine ⟨v, ?_, hR⟩
  rw [results_resF, show (fun t => a.tmps.getD t undef) = lkF env (fun t => a.tmps.getD t undef) from funext ha.get]
  exact hr _
end
section
variable {P : Program} {ρ : Operand → Value} {w w' : World} {o : Oper}
theorem ol_next (x : Operand) (b : Bool) (p v : Value) (ho : o.op = .next x b) (hx : ρ x = p) (hr : (Instr.next p b o.type).run P w = .ok v w') : (execOp ρ o).run P w = .ok (.value v) w' := by
  unfold execOp
  rw [ho]
  simp only [hx, Sem.run_bind, hr, Result.andThen_ok, Sem.run_pure]
theorem ol_entry (x : Operand) (p v : Value) (ho : o.op = .entry x) (hx : ρ x = p) (hr : (Instr.entry p).run P w = .ok v w') : (execOp ρ o).run P w = .ok (.value v) w' := by
  unfold execOp
  rw [ho]
  simp only [hx, Sem.run_bind, hr, Result.andThen_ok, Sem.run_pure]
theorem ol_rangeM (T k e : TypeId) (x : Operand) (bm : Nat) (es : Array MapEntry) (clock : Nat) (ho : o.op = .range T x) (hx : ρ x = .map (some bm)) (ht : P.underlying T = some (.map k e)) (hb : w.heap[bm]? = some (.map es clock)) :
    (execOp ρ o).run P w = .ok (.value (.pointer (some ⟨w.heap.size, 0, none⟩))) (w.alloc (.mapIter (some bm) clock #[] clock)) := by
  unfold execOp
  rw [ho]
  simp only [hx, Sem.run_bind, run_range_map w T k e bm es clock ht hb, Result.andThen_ok, Sem.run_pure]
end
theorem KeepsOthers.setRow (W : World) (g : Nat) (cs : Array Value) : KeepsOthers W (W.setRow g cs) := ⟨by simp, fun k o hk ho => by
  by_cases e : k = g
  · subst e
    obtain ⟨hlt, hk'⟩ := Array.getElem?_eq_some_iff.1 hk
    unfold World.setRow
    show (W.heap.modify k _)[k]? = some o
    rw [Array.getElem?_eq_getElem (by rw [Array.size_modify]; exact hlt), Array.getElem_modify_self, hk']
    cases o <;> first | rfl | (simp [Obj.isCells] at ho)
  · exact (setRow_other _ _ _ _ e).trans hk⟩
theorem Put.keeps {w w' : World} {g : Nat} {cells : Array Value} (h : Put w w' g cells) : KeepsOthers w w' := by rw [h.hw]; exact KeepsOthers.setRow _ _ _
theorem New.keeps {w w' : World} {g : Nat} {cells : Array Value} {T : TypeId} (h : New w w' g cells T) : KeepsOthers w w' := by rw [h.hw]; exact KeepsOthers.alloc _ _
/-- A new block that is filled at once. -/
theorem New.put {w w1 w2 : World} {g : Nat} {z cells : Array Value} {T : TypeId} (h : New w w1 g z T) (hp : Put w1 w2 g cells) : New w w2 g cells T := ⟨h.hg, by rw [hp.hw, h.hw, h.hg]; exact World.setRow_alloc_new _ _ _ _⟩
end Go.Proofs.YtbjjboicfghldabDoor

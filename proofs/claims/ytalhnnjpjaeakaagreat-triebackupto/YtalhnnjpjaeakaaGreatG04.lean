/- Ranges over functions, yields, walks over maps, for the walk by environments. -/
import Derived.Test.YtalhnnjpjaeakaaGreatG02
import Derived.RangeFuncNested
import Derived.Maps.RangeRun
import Derived.Deep.WholeRow
import Derived.Test.YtalhnnjpjaeakaaGreatG03
namespace Go.Proofs.YtalhnnjpjaeakaaGreat
open Go.RowKit
open Go.ChangeMaps (setBlock)
set_option linter.unusedVariables false
set_option maxRecDepth 100000
section
variable {r : Option Nat} {m : Nat} {P : Program} {ds : List Deferred} {n : Nat} {Q : Exit → Act → World → Prop} {env : Env} {w w' : World} {ops : Array Oper} {l : List Oper} {o : Oper}
theorem rw_callIn (d : Nat) (f : FuncId) (args : Array Value) (hc : ∀ fb, chk n ops env fb o d = true) (hr : ∀ fb, (execOp (ev env fb) o).run P w = .ok (.enter f args) w) {R : Value → World → Prop}
    (hcall : CallsIn Fence.wide (m - 1) P f args w fun e w' => ∃ v, e = .returned v ∧ R v w') (h : ∀ v w', R v w' → RW r m P ds n Q ops l ((d, v) :: env) w') : RW r m P ds n Q ops (o :: l) env w := fun a ha => by
  obtain ⟨h1, h2, h3, hnd⟩ := chk_spec (hc (fun t => a.tmps.getD t undef))
  refine wpListIn_step fun K hK => ?_
  rw [ha.want, if_pos h3]
  refine ⟨fun f _ => trivial, ?_⟩
  rw [Oper.semAt_eq _ _ _ hnd, ha.ev, hr, Oper.uponIn_enter]
  refine ⟨fun h => absurd h Bool.false_ne_true, ?_⟩
  refine CallsIn.mono' (F := fz r) hcall ?_
  rintro e w' ⟨v, rfl, hR⟩
  rw [h1]
  exact hK _ _ (h v w' hR _ (fr_put ha h2 v))
theorem rw_yield (d : Nat) (lp : Nat) (args : Array Value) (hc : ∀ fb, chk n ops env fb o d = true) (hr : ∀ fb, (execOp (ev env fb) o).run P w = (Instr.yield lp args).run P w) {R : Ending → World → Prop}
    (hY : YieldAt Fence.wide (m - 1) P lp args w R) (h : ∀ e w', R e w' → ∃ v, e = .returned v ∧ RW r m P ds n Q ops l ((d, v) :: env) w') : RW r m P ds n Q ops (o :: l) env w := fun a ha => by
  obtain ⟨h1, h2, h3, hnd⟩ := chk_spec (hc (fun t => a.tmps.getD t undef))
  obtain ⟨fn, tmps, assign, body, hy, hR⟩ := hY
  refine wpListIn_step fun K hK => ?_
  rw [ha.want, if_pos h3]
  refine ⟨fun f _ => trivial, ?_⟩
  rw [Oper.semAt_eq _ _ _ hnd, ha.ev, hr, hy, Oper.uponIn_round]
  refine ⟨fun h => absurd h Bool.false_ne_true, ?_⟩
  refine RoundIn.mono (F := fz r) hR ?_
  intro e w' hq
  obtain ⟨v, rfl, hw⟩ := h e w' hq
  show K (a.put o.dst v) w'
  rw [h1]
  exact hK _ _ (hw _ (fr_put ha h2 v))
/-- 'for x := range seq': every round goes on. -/
theorem cw_range1 {α : Type} {g : Operand} {p : Tmp} {assign body : Code} (gf : Nat) (lb : Array Value) (hg : ∀ fb, ev env fb g = .func (.func gf) #[] lb) (hm : 1 ≤ m) (hp : p < n) (eg : ∀ args w, (callFunc gf args).run P w = .ok (.enter gf args) w)
    {enc : α → Value} {Kp : World → World → Prop} {S Sp : List α → Prop} {N : Nat} {w0 : World} (hseq : SeqStopsK Fence.wide (m - 1) P gf lb (fun x => #[enc x]) Kp S Sp N w0)
    (hKt : ∀ {A B C : World}, Kp A B → Kp B C → Kp A C) (hKb : ∀ (W : World) (l : Nat) (o o' : Obj), w.heap.size ≤ l → W.heap[l]? = some o → o.isCells = false → o.isWalk = false → Kp W (W.putObj l o')) (hb0 : Below w0.heap.size w0 w)
    (I : List α → World → Prop) (hI : OwnFrom w.heap.size I) (h0 : I [] w) (Ax : α → Env → World → Prop) (hAx : ∀ x e, OwnFrom w.heap.size (fun (_ : Unit) W => Ax x e W))
    (hassign : ∀ (l : Nat) (pre : List α) (x : α) (W : World), I pre W → CW (some l) (m - 1 - 1) P [] n (Exit.then (fun a' W' => KeepsFrom w.heap.size W W' ∧ Kp W W' ∧ I pre W' ∧ ∃ e, Frm [] n e a' ∧ Ax x e W') (fun _ _ _ => False)) assign ((p, enc x) :: env) W)
    (hbody : ∀ (l : Nat) (pre : List α) (x : α) (e : Env) (W : World), w.heap.size ≤ l → I pre W → Ax x e W → pre.length < N → CW (some l) (m - 1 - 1) P [] n (ownPostG w.heap.size Kp I (fun _ _ _ => False) (pre ++ [x]) W) body e W)
    (hdone : ∀ (D : Nat) (xs : List α) (W : World), w.heap.size ≤ D → S xs → I xs W → W.heap[D]? = some (.deferred (some [])) → NW [{ target := .collected D, args := #[] }] n Q .normal env W) :
    CW none m P [] n Q (.rangeFunc g #[p] assign body) env w := fun a ha => by
  refine wpIn_rangeFunc_ownH (F := Fence.wide) rfl hm (by rw [ha.ev]; exact hg _) trivial eg hseq hKt hKb hb0 (fun x => rfl) I (fun _ _ _ => False) hI (fun _ _ _ _ _ hs _ _ => hs) h0 (fun x a' W => ∃ e, Frm [] n e a' ∧ Ax x e W)
    (fun x a' => fun _ W W' row hs hgr hr => by obtain ⟨e, hF, hA⟩ := hs; exact ⟨e, hF, hAx x e () W W' row hA hgr hr⟩) ?_ ?_ ?_ (fun D c pre W _ _ hx _ => hx.elim)
  · intro l pre x W K hi hK
    have hfr : Frm [] n ((p, enc x) :: env) { tmps := ((#[p] : Array Tmp).zip #[enc x]).foldl (fun t (p, v) => t.setIfInBounds p v) a.tmps, defers := [] } := by
      have := fr_put (⟨rfl, ha.sz, ha.get⟩ : Frm [] n env { tmps := a.tmps, defers := [] }) hp (enc x)
      have e : ((#[p] : Array Tmp).zip #[enc x]).foldl (fun t (p, v) => t.setIfInBounds p v) a.tmps = a.tmps.setIfInBounds p (enc x) := by simp
      rw [e]
      exact this
    refine wpIn_mono (hassign l pre x W hi _ hfr) ?_
    intro e a' W' hq
    cases e with
    | normal => exact hK a' W' hq.1 hq.2.1 hq.2.2.1 hq.2.2.2
    | exit id => exact hq
    | goto l => exact hq
    | ret => exact hq
    | panic ch => exact hq
    | outgrown => exact hq
  · rintro l pre x a' W hl _ hi ⟨e, hF, hA⟩ hlen
    exact hbody l pre x e W hl hi hA hlen a' hF
  · intro D xs W hD hs hi hd
    refine hdone D xs W hD hs hi hd _ ⟨?_, ha.sz, ha.get⟩
    show _ :: a.defers = _
    rw [ha.df]
theorem nw_own {α : Type} {B : Nat} {Kp : World → World → Prop} {I : List α → World → Prop} {Ix : Code → List α → World → Prop} {xs : List α} {W : World} (h1 : KeepsFrom B W w) (h2 : Kp W w) (h3 : I xs w) : NW ds n (ownPostG B Kp I Ix xs W) .normal env w := fun a ha => ⟨h1, h2, h3⟩
theorem nw_ret_marks {fn : Func} {R : Ending → World → Prop} {D : Nat} (hK : w.heap[D]? = some (.deferred (some []))) (v : Value) (hr : ∀ fb, (resF (lkF env fb) fn.results).run P (w.putObj D (.deferred none)) = .ok v (w.putObj D (.deferred none))) (hR : R (.returned v) (w.putObj D (.deferred none))) :
    NW [{ target := .collected D, args := #[] }] n (bodyPostM Fence.wide m P fn R) .ret env w := fun a ha => by
  show LeavesInM Fence.wide m P fn a.tmps R a.defers .returning w
  rw [ha.df]
  refine ⟨by simp, .inl ⟨_, _, rfl, run_takeDeferred hK, ?_⟩⟩
  refine ⟨v, ?_, hR⟩
  rw [results_resF, show (fun t => a.tmps.getD t undef) = lkF env (fun t => a.tmps.getD t undef) from funext ha.get]
  exact hr _
end
section
variable {P : Program} {ρ : Operand → Value} {w w' : World} {o : Oper}
theorem ol_next (x : Operand) (b : Bool) (p v : Value) (ho : o.op = .next x b) (hx : ρ x = p) (hr : (Instr.next p b o.type).run P w = .ok v w') : (execOp ρ o).run P w = .ok (.value v) w' := by
  unfold execOp
  rw [ho]
  simp only [hx, Sem.run_bind, hr, Result.andThen_ok, Sem.run_pure]
theorem ol_entry (x : Operand) (p v : Value) (ho : o.op = .entry x) (hx : ρ x = p) (hr : (Instr.entry p).run P w = .ok v w') : (execOp ρ o).run P w = .ok (.value v) w' := by
  unfold execOp
  rw [ho]
  simp only [hx, Sem.run_bind, hr, Result.andThen_ok, Sem.run_pure]
theorem ol_rangeM (T k e : TypeId) (x : Operand) (bm : Nat) (es : Array MapEntry) (clock : Nat) (ho : o.op = .range T x) (hx : ρ x = .map (some bm)) (ht : P.underlying T = some (.map k e)) (hb : w.heap[bm]? = some (.map es clock)) :
    (execOp ρ o).run P w = .ok (.value (.pointer (some ⟨w.heap.size, 0, none⟩))) (w.alloc (.mapIter (some bm) clock #[] clock)) := by
  unfold execOp
  rw [ho]
  simp only [hx, Sem.run_bind, run_range_map w T k e bm es clock ht hb, Result.andThen_ok, Sem.run_pure]
end
theorem KeepsOthers.setRow (W : World) (g : Nat) (cs : Array Value) : KeepsOthers W (W.setRow g cs) := ⟨by simp, fun k o hk ho => by
  by_cases e : k = g
  · subst e
    obtain ⟨hlt, hk'⟩ := Array.getElem?_eq_some_iff.1 hk
    unfold World.setRow
    show (W.heap.modify k _)[k]? = some o
    rw [Array.getElem?_eq_getElem (by rw [Array.size_modify]; exact hlt), Array.getElem_modify_self, hk']
    cases o <;> first | rfl | (simp [Obj.isCells] at ho)
  · exact (setRow_other _ _ _ _ e).trans hk⟩
theorem Put.keeps {w w' : World} {g : Nat} {cells : Array Value} (h : Put w w' g cells) : KeepsOthers w w' := by rw [h.hw]; exact KeepsOthers.setRow _ _ _
theorem New.keeps {w w' : World} {g : Nat} {cells : Array Value} {T : TypeId} (h : New w w' g cells T) : KeepsOthers w w' := by rw [h.hw]; exact KeepsOthers.alloc _ _
/-- A new block that is filled at once. -/
theorem New.put {w w1 w2 : World} {g : Nat} {z cells : Array Value} {T : TypeId} (h : New w w1 g z T) (hp : Put w1 w2 g cells) : New w w2 g cells T := ⟨h.hg, by rw [hp.hw, h.hw, h.hg]; exact World.setRow_alloc_new _ _ _ _⟩
end Go.Proofs.YtalhnnjpjaeakaaGreat
/- Slices of bytes: compared, their beginnings, copied, joined. -/
namespace Go.Proofs.YtalhnnjpjaeakaaGreat
open Go.RowKit
set_option linter.unusedVariables false
set_option maxRecDepth 100000
theorem Sk.cutFrom {K : Nat → Prop} {w : World} {a : Option Addr} {n c : Nat} {bs : List Int} (h : Sk K w a n c bs) (f : Nat) (hf : f ≤ n) :
    ∃ a' n' c', (∀ (v : World) (ρ : Operand → Value) (o : Oper) (x y : Operand) (i : Int), o.op = .slice 27 x (some y) none none → ρ x = .slice a n c → ρ y = .int .i64 i → i = f → (execOp ρ o).run Tryz.prog v = .ok (.value (.slice a' n' c')) v) ∧ Sk K w a' n' c' (bs.drop f) :=
  ⟨_, _, _, h.run_from f hf, h.from f hf⟩
theorem Sk.cutTo {K : Nat → Prop} {w : World} {a : Option Addr} {n c : Nat} {bs : List Int} (h : Sk K w a n c bs) (f : Nat) (hf : f ≤ n) :
    ∃ a' n' c', (∀ (v : World) (ρ : Operand → Value) (o : Oper) (x y : Operand) (i : Int), o.op = .slice 27 x none (some y) none → ρ x = .slice a n c → ρ y = .int .i64 i → i = f → (execOp ρ o).run Tryz.prog v = .ok (.value (.slice a' n' c')) v) ∧ Sk K w a' n' c' (bs.take f) :=
  ⟨_, _, _, h.run_upto f hf, h.upto f hf⟩
/-- A block and its row. -/
def Rw (g : Nat) (w : World) (cells : Array Value) (T : TypeId) : Prop := w.heap[g]? = some (.cells cells T (0, 0))
theorem Rw.go {g : Nat} {w w' : World} {cells : Array Value} {T : TypeId} (h : Rw g w cells T) (hb : Below w.heap.size w w') : Rw g w' cells T := Below.row hb h
theorem Rw.drew {g : Nat} {w : World} {cells : Array Value} {T : TypeId} (h : Rw g w cells T) : Rw g w.drew cells T := h
/-- How far the world has gone. -/
def Bl (w0 w : World) : Prop := Below w0.heap.size w0 w
theorem Bl.refl (w : World) : Bl w w := Below.refl _ _
theorem Bl.go {w0 w w' : World} (h : Bl w0 w) (hb : Below w.heap.size w w') : Bl w0 w' := h.trans (hb.mono h.size)
theorem Bl.drew {w0 w : World} (h : Bl w0 w) : Bl w0 w.drew := h.go (Below.refl _ _).drew
theorem Bl.size {w0 w : World} (h : Bl w0 w) : w0.heap.size ≤ w.heap.size := Below.size h
section
variable {r : Option Nat} {m : Nat} {P : Program} {ds : List Deferred} {n : Nat} {Q : Exit → Act → World → Prop} {env : Env} {w : World} {ops : Array Oper} {l : List Oper} {o : Oper} {S : World → Prop} {fuel : Nat} {listed : Array Bool} {rs : List Nat}
theorem rw_newS (d : Nat) (cells : Array Value) (T : TypeId) (k : Nat) (hc : ∀ fb, chk n ops env fb o d = true) (hr : ∀ fb, (execOp (ev env fb) o).run P w = .ok (.value (.slice (some ⟨w.heap.size, 0, none⟩) k k)) (w.alloc (.cells cells T)))
    (h : ∀ w' g, New w w' g cells T → RW r m P ds n Q ops l ((d, .slice (some ⟨g, 0, none⟩) k k) :: env) w') : RW r m P ds n Q ops (o :: l) env w := rw_v d _ hc hr (h _ _ ⟨rfl, rfl⟩)
theorem ar_newS (i d : Nat) (cells : Array Value) (T : TypeId) (k : Nat) (ho : ops[i]? = some o) (hc : ∀ fb, chk n ops env fb o d = true) (hr : ∀ fb, (execOp (ev env fb) o).run P w = .ok (.value (.slice (some ⟨w.heap.size, 0, none⟩) k k)) (w.alloc (.cells cells T))) (hS : ∀ w' g, New w w' g cells T → S w')
    (h : ∀ w' g, New w w' g cells T → DW P ds n Q ops S fuel (listed.setIfInBounds i true) ((d, .slice (some ⟨g, 0, none⟩) k k) :: env) w') (hs : AR P ds n Q ops S fuel listed env w rs) : AR P ds n Q ops S fuel listed env w (i :: rs) :=
  ar_v i d _ ho hc hr (hS _ _ ⟨rfl, rfl⟩) (h _ _ ⟨rfl, rfl⟩) hs
end
theorem OwnB.grows {w w' : World} {base : Nat} {v : Value} {bs : List Int} (h : OwnB w base v bs) (hb : Below w.heap.size w w') : OwnB w' base v bs := OwnB.far h (fun i _ hi => hb.block i hi)
theorem pre_short {p q : List Int} (h : ¬ q.length ≤ p.length) : decide (p.take q.length = q) = false := by
  rw [decide_eq_false]
  intro e
  have := congrArg List.length e
  rw [List.length_take] at this
  omega
theorem one_sk {K : Nat → Prop} {w w' : World} {g : Nat} {x : Int} (hx : 0 ≤ x ∧ x < 256) (h : New w w' g #[.int .u8 x] 5) (hK : ∀ b, w.heap.size ≤ b → K b) : Sk K w' (some ⟨g, 0, none⟩) 1 1 [x] := by
  refine ⟨⟨.inr ⟨g, 0, rfl, rfl, by omega, by omega, by unfold maxLen; omega, fun j hj => ?_⟩, (fun e => by cases e), rfl, fun y hy => by rw [List.mem_singleton.1 hy]; exact hx⟩, fun y hy _ => ?_⟩
  · have : j = 0 := by simpa using hj
    subst this
    rw [cell_of_row _ _ _ _ _ _ h.row]; rfl
  · cases hy
    exact hK _ (by rw [h.hg]; exact Nat.le_refl _)
set_option maxHeartbeats 1000000 in
theorem equal_any {K K' : Nat → Prop} {w : World} {a a' : Option Addr} {n c n' c' : Nat} {p q : List Int} (h1 : Sk K w a n c p) (h2 : Sk K' w a' n' c' q) :
    Calls Tryz.prog 44 #[.slice a n c, .slice a' n' c'] w fun e w' => ∃ u, e = .returned u ∧ u = .bool (decide (p = q)) ∧ Bl w w' := by
  have hB := Bl.refl w
  refine cw_enter Tryz.func44 rfl 10 rfl ?_
  show CW _ _ _ _ _ _ _ [(0, .slice a n c), (1, .slice a' n' c')] _
  refine cw_seq ?_
  refine cw_region ?_
  refine rw_p 4 (.bool false) (fun _ => by kernel_rfl) (fun _ => by kernel_rfl) ?_
  refine rw_nil ?_
  refine nw_then ?_
  refine cw_seq ?_
  refine cw_region ?_
  refine rw_p 5 (.slice a n c) (fun _ => by kernel_rfl) (fun _ => by kernel_rfl) ?_
  refine rw_p 6 (.string (strOfNums p)) (fun _ => by kernel_rfl) (fun _ => h1.run_str _ _ _ rfl (by kernel_rfl)) ?_
  refine rw_p 7 (.slice a' n' c') (fun _ => by kernel_rfl) (fun _ => by kernel_rfl) ?_
  refine rw_p 8 (.string (strOfNums q)) (fun _ => by kernel_rfl) (fun _ => h2.run_str _ _ _ rfl (by kernel_rfl)) ?_
  refine rw_p 9 (.bool (decide (p = q))) (fun _ => by kernel_rfl) (fun _ => ol_eqs 9 _ _ _ _ _ rfl (by kernel_rfl) (by kernel_rfl) (strs_eq h1.ag.b h2.ag.b)) ?_
  refine rw_p 4 (.bool (decide (p = q))) (fun _ => by kernel_rfl) (fun _ => by kernel_rfl) ?_
  refine rw_nil ?_
  refine nw_then ?_
  refine cw_ret ?_
  exact nw_ret_body (.bool (decide (p = q))) (fun _ => by kernel_rfl) ⟨_, rfl, rfl, hB⟩
set_option maxHeartbeats 1000000 in
theorem hasPrefix_any {K K' : Nat → Prop} {w : World} {a a' : Option Addr} {n c n' c' : Nat} {p q : List Int} (h1 : Sk K w a n c p) (h2 : Sk K' w a' n' c' q) :
    Calls Tryz.prog 195 #[.slice a n c, .slice a' n' c'] w fun e w' => ∃ u, e = .returned u ∧ u = .bool (decide (p.take q.length = q)) ∧ Bl w w' := by
  have hB := Bl.refl w
  have l1 := h1.len
  have l2 := h2.len
  refine cw_enter Tryz.func195 rfl 18 rfl ?_
  show CW _ _ _ _ _ _ _ [(0, .slice a n c), (1, .slice a' n' c')] _
  refine cw_seq ?_
  refine cw_region ?_
  refine rw_p 4 (.bool false) (fun _ => by kernel_rfl) (fun _ => by kernel_rfl) ?_
  refine rw_nil ?_
  refine nw_then ?_
  refine cw_seq ?_
  refine cw_region ?_
  refine rw_p 5 (.slice a n c) (fun _ => by kernel_rfl) (fun _ => by kernel_rfl) ?_
  refine rw_p 6 (.int .i64 n) (fun _ => by kernel_rfl) (fun _ => by kernel_rfl) ?_
  refine rw_p 7 (.slice a' n' c') (fun _ => by kernel_rfl) (fun _ => by kernel_rfl) ?_
  refine rw_p 8 (.int .i64 n') (fun _ => by kernel_rfl) (fun _ => by kernel_rfl) ?_
  refine rw_p 9 (.bool (decide ((n : Int) ≥ (n' : Int)))) (fun _ => by kernel_rfl) (fun _ => by kernel_rfl) ?_
  refine rw_p 10 (.bool (decide ((n : Int) ≥ (n' : Int)))) (fun _ => by kernel_rfl) (fun _ => by kernel_rfl) ?_
  cases hq1 : (decide ((n : Int) ≥ (n' : Int))) with
  | true =>
    refine rw_p 11 (.slice a n c) (fun _ => by kernel_rfl) (fun _ => by kernel_rfl) ?_
    refine rw_p 12 (.slice a' n' c') (fun _ => by kernel_rfl) (fun _ => by kernel_rfl) ?_
    refine rw_p 13 (.int .i64 n') (fun _ => by kernel_rfl) (fun _ => by kernel_rfl) ?_
    obtain ⟨a2, n3, c4, hr5, hs6⟩ := h1.cutTo n' (by simp only [decide_eq_true_eq, ge_iff_le] at *; omega)
    refine rw_p 14 (.slice a2 n3 c4) (fun _ => by kernel_rfl) (fun _ => hr5 _ _ _ _ _ _ rfl (by kernel_rfl) (by kernel_rfl) rfl) ?_
    refine rw_p 15 (.slice a' n' c') (fun _ => by kernel_rfl) (fun _ => by kernel_rfl) ?_
    refine rw_call 16 44 #[.slice a2 n3 c4, .slice a' n' c'] (fun _ => by kernel_rfl) (fun _ => by kernel_rfl) (R := fun u w' => u = .bool (decide (p.take n' = q)) ∧ Bl (w) w') ((equal_any hs6 h2)) ?_
    rintro _ u7 ⟨rfl, hb8⟩
    replace h1 := h1.go hb8
    replace h2 := h2.go hb8
    replace hB := hB.go hb8
    replace hs6 := hs6.go hb8
    refine rw_p 17 (.bool (decide (p.take n' = q))) (fun _ => by kernel_rfl) (fun _ => by kernel_rfl) ?_
    refine rw_p 4 (.bool (decide (p.take n' = q))) (fun _ => by kernel_rfl) (fun _ => by kernel_rfl) ?_
    refine rw_nil ?_
    refine nw_then ?_
    refine cw_ret ?_
    exact nw_ret_body (.bool (decide (p.take n' = q))) (fun _ => by kernel_rfl) ⟨_, rfl, by rw [l2], hB⟩
  | false =>
    refine rw_off 11 (fun _ => by kernel_rfl) ?_
    refine rw_off 12 (fun _ => by kernel_rfl) ?_
    refine rw_off 13 (fun _ => by kernel_rfl) ?_
    refine rw_off 14 (fun _ => by kernel_rfl) ?_
    refine rw_off 15 (fun _ => by kernel_rfl) ?_
    refine rw_off 16 (fun _ => by kernel_rfl) ?_
    refine rw_p 17 (.bool false) (fun _ => by kernel_rfl) (fun _ => by kernel_rfl) ?_
    refine rw_p 4 (.bool false) (fun _ => by kernel_rfl) (fun _ => by kernel_rfl) ?_
    refine rw_nil ?_
    refine nw_then ?_
    refine cw_ret ?_
    exact nw_ret_body (.bool false) (fun _ => by kernel_rfl) ⟨_, rfl, by rw [pre_short (by simp only [decide_eq_false_iff_not, ge_iff_le] at *; omega)], hB⟩
set_option maxHeartbeats 1000000 in
theorem cutPrefix_any {K K' : Nat → Prop} {w : World} {a a' : Option Addr} {n c n' c' : Nat} {p q : List Int} (h1 : Sk K w a n c p) (h2 : Sk K' w a' n' c' q) :
    Calls Tryz.prog 194 #[.slice a n c, .slice a' n' c'] w fun e w' => ∃ u, e = .returned u ∧ ∃ a2 n2 c2 b, u = .tuple #[.slice a2 n2 c2, .bool b] ∧ b = decide (p.take q.length = q) ∧ (p.take q.length = q → Sk K w' a2 n2 c2 (p.drop q.length)) ∧ Bl w w' := by
  have hB := Bl.refl w
  have l1 := h1.len
  have l2 := h2.len
  refine cw_enter Tryz.func194 rfl 15 rfl ?_
  show CW _ _ _ _ _ _ _ [(0, .slice a n c), (1, .slice a' n' c')] _
  refine cw_seq ?_
  refine cw_region ?_
  refine rw_p 4 (.slice none 0 0) (fun _ => by kernel_rfl) (fun _ => by kernel_rfl) ?_
  refine rw_p 5 (.bool false) (fun _ => by kernel_rfl) (fun _ => by kernel_rfl) ?_
  refine rw_nil ?_
  refine nw_then ?_
  refine cw_seq ?_
  refine cw_seq ?_
  refine cw_region ?_
  refine rw_p 6 (.slice a n c) (fun _ => by kernel_rfl) (fun _ => by kernel_rfl) ?_
  refine rw_p 7 (.slice a' n' c') (fun _ => by kernel_rfl) (fun _ => by kernel_rfl) ?_
  refine rw_call 8 195 #[.slice a n c, .slice a' n' c'] (fun _ => by kernel_rfl) (fun _ => by kernel_rfl) (R := fun u w' => u = .bool (decide (p.take q.length = q)) ∧ Bl (w) w') ((hasPrefix_any h1 h2)) ?_
  rintro _ u1 ⟨rfl, hb2⟩
  replace h1 := h1.go hb2
  replace h2 := h2.go hb2
  replace hB := hB.go hb2
  refine rw_p 9 (.bool (!(decide (p.take q.length = q)))) (fun _ => by kernel_rfl) (fun _ => by kernel_rfl) ?_
  refine rw_nil ?_
  refine nw_then ?_
  cases hq' : (decide (p.take q.length = q)) with
  | true =>
    refine cw_cond_f (fun _ => by kernel_rfl) ?_
    refine cw_skip ?_
    refine nw_then ?_
    refine cw_seq ?_
    refine cw_region ?_
    refine rw_p 11 (.slice a n c) (fun _ => by kernel_rfl) (fun _ => by kernel_rfl) ?_
    refine rw_p 12 (.slice a' n' c') (fun _ => by kernel_rfl) (fun _ => by kernel_rfl) ?_
    refine rw_p 13 (.int .i64 n') (fun _ => by kernel_rfl) (fun _ => by kernel_rfl) ?_
    obtain ⟨a3, n4, c5, hr6, hs7⟩ := h1.cutFrom n' (by have e := congrArg List.length (of_decide_eq_true hq'); rw [List.length_take] at e; omega)
    refine rw_p 14 (.slice a3 n4 c5) (fun _ => by kernel_rfl) (fun _ => hr6 _ _ _ _ _ _ rfl (by kernel_rfl) (by kernel_rfl) rfl) ?_
    refine rw_p 4 (.slice a3 n4 c5) (fun _ => by kernel_rfl) (fun _ => by kernel_rfl) ?_
    refine rw_p 5 (.bool true) (fun _ => by kernel_rfl) (fun _ => by kernel_rfl) ?_
    refine rw_nil ?_
    refine nw_then ?_
    refine cw_ret ?_
    exact nw_ret_body (.tuple #[.slice a3 n4 c5, .bool true]) (fun _ => by kernel_rfl) ⟨_, rfl, _, _, _, _, rfl, rfl, fun _ => by rw [l2]; exact hs7, hB⟩
  | false =>
    refine cw_cond_t (fun _ => by kernel_rfl) ?_
    refine cw_seq ?_
    refine cw_region ?_
    refine rw_p 10 (.slice a n c) (fun _ => by kernel_rfl) (fun _ => by kernel_rfl) ?_
    refine rw_p 4 (.slice a n c) (fun _ => by kernel_rfl) (fun _ => by kernel_rfl) ?_
    refine rw_p 5 (.bool false) (fun _ => by kernel_rfl) (fun _ => by kernel_rfl) ?_
    refine rw_nil ?_
    refine nw_then ?_
    refine cw_ret ?_
    refine nw_ret_then ?_
    exact nw_ret_body (.tuple #[.slice a n c, .bool false]) (fun _ => by kernel_rfl) ⟨_, rfl, _, _, _, _, rfl, rfl, fun e => absurd e (of_decide_eq_false hq'), hB⟩
set_option maxHeartbeats 1000000 in
theorem clone_none {K : Nat → Prop} {w : World} {p : List Int} (h1 : Sk K w none 0 0 p) :
    Calls Tryz.prog 32 #[.slice none 0 0] w fun e w' => ∃ u, e = .returned u ∧ ∃ a2 n2 c2, u = .slice a2 n2 c2 ∧ Sk (fun b => w.heap.size ≤ b) w' a2 n2 c2 p ∧ Bl w w' := by
  have hB := Bl.refl w
  refine cw_enter Tryz.func32 rfl 8 rfl ?_
  show CW _ _ _ _ _ _ _ [(0, .slice none 0 0)] _
  refine cw_seq ?_
  refine cw_region ?_
  refine rw_p 2 (.slice none 0 0) (fun _ => by kernel_rfl) (fun _ => by kernel_rfl) ?_
  refine rw_nil ?_
  refine nw_then ?_
  refine cw_seq ?_
  refine cw_seq ?_
  refine cw_region ?_
  refine rw_p 3 (.slice none 0 0) (fun _ => by kernel_rfl) (fun _ => by kernel_rfl) ?_
  refine rw_p 4 (.bool true) (fun _ => by kernel_rfl) (fun _ => by kernel_rfl) ?_
  refine rw_nil ?_
  refine nw_then ?_
  refine cw_cond_t (fun _ => by kernel_rfl) ?_
  refine cw_seq ?_
  refine cw_region ?_
  refine rw_p 2 (.slice none 0 0) (fun _ => by kernel_rfl) (fun _ => by kernel_rfl) ?_
  refine rw_nil ?_
  refine nw_then ?_
  refine cw_ret ?_
  refine nw_ret_then ?_
  exact nw_ret_body (.slice none 0 0) (fun _ => by kernel_rfl) ⟨_, rfl, none, 0, 0, rfl, by have e : p = [] := List.eq_nil_of_length_eq_zero h1.len; subst e; exact Sk.nil _ _, hB⟩
set_option maxHeartbeats 1000000 in
theorem clone_some {K : Nat → Prop} {w : World} {ad : Addr} {n c : Nat} {p : List Int} (h1 : Sk K w (some ad) n c p) (hn : n ≤ 1000000) :
    Calls Tryz.prog 32 #[.slice (some ad) n c] w fun e w' => ∃ u, e = .returned u ∧ ∃ a2 n2 c2, u = .slice a2 n2 c2 ∧ Sk (fun b => w.heap.size ≤ b) w' a2 n2 c2 p ∧ Bl w w' := by
  have hB := Bl.refl w
  refine cw_enter Tryz.func32 rfl 8 rfl ?_
  show CW _ _ _ _ _ _ _ [(0, .slice (some ad) n c)] _
  refine cw_seq ?_
  refine cw_region ?_
  refine rw_p 2 (.slice none 0 0) (fun _ => by kernel_rfl) (fun _ => by kernel_rfl) ?_
  refine rw_nil ?_
  refine nw_then ?_
  refine cw_seq ?_
  refine cw_seq ?_
  refine cw_region ?_
  refine rw_p 3 (.slice (some ad) n c) (fun _ => by kernel_rfl) (fun _ => by kernel_rfl) ?_
  refine rw_p 4 (.bool false) (fun _ => by kernel_rfl) (fun _ => by kernel_rfl) ?_
  refine rw_nil ?_
  refine nw_then ?_
  refine cw_cond_f (fun _ => by kernel_rfl) ?_
  refine cw_skip ?_
  refine nw_then ?_
  refine cw_seq ?_
  refine cw_region ?_
  refine rw_newS 5 #[] 5 0 (fun _ => by kernel_rfl) (fun _ => by kernel_rfl) ?_
  intro w1 g2 hn3
  have hzhn3 := hB.size
  replace h1 := h1.go hn3.below
  replace hB := hB.go hn3.below
  have hO : OwnB w1 g2 (.slice (some ⟨g2, 0, none⟩) 0 0) [] := by rw [hn3.hw, hn3.hg]; exact OwnB.new _
  have hsz := hn3.size
  have hgs := hn3.hg
  refine rw_p 6 (.slice (some ad) n c) (fun _ => by kernel_rfl) (fun _ => by kernel_rfl) ?_
  obtain ⟨v1, w9, hr9, ho9, hb9⟩ := app_run hO h1.ag (by simp; omega) (by omega)
  refine rw_v 7 v1 (fun _ => by kernel_rfl) (fun _ => ol_app hr9 _ _ rfl (by kernel_rfl) (by kernel_rfl)) ?_
  obtain ⟨a9, c9, rfl, hs9⟩ := ho9.sk (K := fun b => w.heap.size ≤ b) (by simpa using h1.ag.b) (fun b hb => by omega)
  refine rw_p 2 (.slice a9 ([] ++ p).length c9) (fun _ => by kernel_rfl) (fun _ => by kernel_rfl) ?_
  refine rw_nil ?_
  refine nw_then ?_
  refine cw_ret ?_
  exact nw_ret_body (.slice a9 ([] ++ p).length c9) (fun _ => by kernel_rfl) ⟨_, rfl, _, _, _, rfl, hs9, hB.trans (hb9.mono (by omega))⟩
theorem clone_any {K : Nat → Prop} {w : World} {a : Option Addr} {n c : Nat} {p : List Int} (h1 : Sk K w a n c p) (hn : n ≤ 1000000) :
    Calls Tryz.prog 32 #[.slice a n c] w fun e w' => ∃ u, e = .returned u ∧ ∃ a2 n2 c2, u = .slice a2 n2 c2 ∧ Sk (fun b => w.heap.size ≤ b) w' a2 n2 c2 p ∧ Bl w w' := by
  cases a with
  | none => obtain ⟨rfl, rfl⟩ := h1.ag.nil rfl; exact clone_none h1
  | some ad => exact clone_some h1 hn
end Go.Proofs.YtalhnnjpjaeakaaGreat
/- Slices of bytes joined. -/
namespace Go.Proofs.YtalhnnjpjaeakaaGreat
open Go.RowKit
set_option linter.unusedVariables false
set_option maxRecDepth 100000
theorem ol_app2 {w w' : World} {v u r : Value} {t1 t2 : TypeId} {ρ : Operand → Value} {o : Oper} (hr : ∀ ty, (Builtin.append_ #[t1, t2] ty #[v, u]).run Tryz.prog w = .ok r w') (x y : Operand) (ho : o.op = .call { callee := .builtin .append, args := #[x, y], argTypes := #[t1, t2] }) (hx : ρ x = v) (hy : ρ y = u) : (execOp ρ o).run Tryz.prog w = .ok (.value r) w' := by
  unfold execOp
  simp only [ho, resolve, invoke, builtin, Sem.run_bind, Sem.run_pure, Result.andThen_ok, List.map_toArray, List.map_cons, List.map_nil, hx, hy, hr]
theorem zeros_size (n : Nat) : (Builtin.zeroCells #[Value.int .u8 0] n).size = n := by simp [Builtin.zeroCells]
theorem grow_zeros (w : World) (k : Nat) (h0 : 0 < k) (hk : k ≤ 1000000) : ∃ cap w9, (∀ ty, (Builtin.append_ #[27, 3] ty #[.slice none 0 0, .int .i64 ((k : Nat) : Int)]).run Tryz.prog w = .ok (.slice (some ⟨w.heap.size, 0, none⟩) k cap) w9) ∧ OwnB w9 w.heap.size (.slice (some ⟨w.heap.size, 0, none⟩) 0 cap) [] ∧ Bl w w9 := by
  obtain ⟨i, hi, hz, hsz, hby⟩ := info5
  have hr := fun ty => Lib.run_append_nil_zeros (P := Tryz.prog) w 27 3 ty 5 i (.int .u8 0) .i64 .i64 Tryz.underlying27 Tryz.underlying3 hi hz k h0 (by omega) (by omega) (by rw [hby]; omega)
  refine ⟨_, _, hr, ⟨rfl, .inr ⟨w.heap.size, _, _, rfl, Nat.le_refl _, heap_alloc_new _ _, Nat.zero_le _, grownCap_le_maxLen _ _ _ _ (by unfold maxLen; omega), ?_, rfl⟩⟩, ?_⟩
  · rw [Array.size_append, show (Value.int IntKind.u8 0).cells = #[.int .u8 0] from rfl, zeros_size, zeros_size]
    have := grownCap_ge w k 0 5
    omega
  · exact (Below.refl _ _).drew.alloc (Nat.le_refl _) _
theorem ol_cut0 {w : World} {g n cap : Nat} {ρ : Operand → Value} {o : Oper} (x y : Operand) (ho : o.op = .slice 27 x none (some y) none) (hx : ρ x = .slice (some ⟨g, 0, none⟩) n cap) (hy : ρ y = .int .i64 0) :
    (execOp ρ o).run Tryz.prog w = .ok (.value (.slice (some ⟨g, 0, none⟩) 0 cap)) w := by
  unfold execOp
  rw [ho]
  simp [hx, hy, Instr.sliceAt, run_underlying Tryz.underlying27, Instr.slice, Instr.sliceBounds, Instr.sliceBound, asIntOf, addr_add, Result.andThen]
theorem Sk.old {K : Nat → Prop} {w : World} {a : Option Addr} {n c : Nat} {bs : List Int} (h : Sk K w a n c bs) {x : Addr} (hx : a = some x) (hn : 0 < n) : x.block < w.heap.size := by
  rcases h.ag.i with ⟨h1, h2⟩ | ⟨gb, off, h1, h2, h3, h4, h5, h7⟩
  · omega
  · rw [hx] at h1
    cases h1
    have := block_lt_of_cell (h7 0 (by omega))
    exact this
theorem Sk.under {K : Nat → Prop} {w w' : World} {a : Option Addr} {n c B : Nat} {bs : List Int} (h : Sk K w a n c bs) (hx : ∀ x, a = some x → 0 < n → x.block < B) (hb : Below B w w') : Sk K w' a n c bs := by
  refine ⟨⟨?_, h.ag.nil, h.ag.l, h.ag.b⟩, h.k⟩
  rcases h.ag.i with h1 | ⟨gb, off, h1, h2, h3, h4, h5, h7⟩
  · exact .inl h1
  · exact .inr ⟨gb, off, h1, h2, h3, h4, h5, fun j hj => (hb.cell (p := ⟨gb, off + j, none⟩) (show gb < B from hx ⟨gb, off, none⟩ h1 h3)).trans (h7 j hj)⟩
theorem Rw.under {g B : Nat} {w w' : World} {cells : Array Value} {T : TypeId} (h : Rw g w cells T) (hg : g < B) (hb : Below B w w') : Rw g w' cells T := (hb.block g hg).trans h
set_option maxHeartbeats 1000000 in
theorem grow_any {w : World} (k : Nat) (hk : k ≤ 1000000) :
    Calls Tryz.prog 177 #[.slice none 0 0, .int .i64 ((k : Nat) : Int)] w fun e w' => ∃ u, e = .returned u ∧ OwnB w' w.heap.size u [] ∧ Bl w w' := by
  have hB := Bl.refl w
  refine cw_enter Tryz.func177 rfl 27 rfl ?_
  show CW _ _ _ _ _ _ _ [(0, .slice none 0 0), (1, .int .i64 ((k : Nat) : Int))] _
  refine cw_seq ?_
  refine cw_region ?_
  refine rw_p 4 (.slice none 0 0) (fun _ => by kernel_rfl) (fun _ => by kernel_rfl) ?_
  refine rw_nil ?_
  refine nw_then ?_
  refine cw_seq ?_
  refine cw_seq ?_
  refine cw_region ?_
  refine rw_p 5 (.int .i64 ((k : Nat) : Int)) (fun _ => by kernel_rfl) (fun _ => by kernel_rfl) ?_
  refine rw_p 6 (.bool false) (fun _ => by kernel_rfl) (fun _ => ol_conv (v := .bool (decide (((k : Nat) : Int) < (0 : Int)))) (by kernel_rfl) (congrArg Value.bool (decide_eq_false (by omega)))) ?_
  refine rw_nil ?_
  refine nw_then ?_
  refine cw_cond_f (fun _ => by kernel_rfl) ?_
  refine cw_skip ?_
  refine nw_then ?_
  refine cw_seq ?_
  refine cw_seq ?_
  refine cw_region ?_
  refine rw_p 8 (.int .i64 ((k : Nat) : Int)) (fun _ => by kernel_rfl) (fun _ => by kernel_rfl) ?_
  refine rw_p 9 (.slice none 0 0) (fun _ => by kernel_rfl) (fun _ => by kernel_rfl) ?_
  refine rw_p 10 (.int .i64 0) (fun _ => by kernel_rfl) (fun _ => by kernel_rfl) ?_
  refine rw_p 11 (.slice none 0 0) (fun _ => by kernel_rfl) (fun _ => by kernel_rfl) ?_
  refine rw_p 12 (.int .i64 0) (fun _ => by kernel_rfl) (fun _ => by kernel_rfl) ?_
  refine rw_p 13 (.int .i64 0) (fun _ => by kernel_rfl) (fun _ => by kernel_rfl) ?_
  refine rw_p 14 (.int .i64 ((k : Nat) : Int)) (fun _ => by kernel_rfl) (fun _ => ol_conv (v := .int .i64 (IntKind.i64.wrap (((k : Nat) : Int) - 0))) (by kernel_rfl) (congrArg (Value.int .i64) (by rw [wrap64 (by omega) (by omega)]; omega))) ?_
  refine rw_p 1 (.int .i64 ((k : Nat) : Int)) (fun _ => by kernel_rfl) (fun _ => by kernel_rfl) ?_
  refine rw_nil ?_
  refine nw_then ?_
  refine cw_seq ?_
  refine cw_region ?_
  refine rw_p 15 (.int .i64 ((k : Nat) : Int)) (fun _ => by kernel_rfl) (fun _ => by kernel_rfl) ?_
  refine rw_p 16 (.bool (decide (((k : Nat) : Int) > (0 : Int)))) (fun _ => by kernel_rfl) (fun _ => by kernel_rfl) ?_
  refine rw_nil ?_
  refine nw_then ?_
  cases hq1 : (decide (((k : Nat) : Int) > (0 : Int))) with
  | true =>
    refine cw_cond_t (fun _ => by kernel_rfl) ?_
    refine cw_region ?_
    refine rw_p 17 (.slice none 0 0) (fun _ => by kernel_rfl) (fun _ => by kernel_rfl) ?_
    refine rw_p 18 (.slice none 0 0) (fun _ => by kernel_rfl) (fun _ => by kernel_rfl) ?_
    refine rw_p 19 (.int .i64 0) (fun _ => by kernel_rfl) (fun _ => by kernel_rfl) ?_
    refine rw_p 20 (.slice none 0 0) (fun _ => by kernel_rfl) (fun _ => by kernel_rfl) ?_
    refine rw_p 21 (.int .i64 ((k : Nat) : Int)) (fun _ => by kernel_rfl) (fun _ => by kernel_rfl) ?_
    obtain ⟨cap9, w9, hr9, ho9, hb9⟩ := grow_zeros w k (by simp only [decide_eq_true_eq] at *; omega) hk
    refine rw_v 22 (.slice (some ⟨w.heap.size, 0, none⟩) k cap9) (fun _ => by kernel_rfl) (fun _ => ol_app2 hr9 _ _ rfl (by kernel_rfl) (by kernel_rfl)) ?_
    refine rw_p 23 (.slice none 0 0) (fun _ => by kernel_rfl) (fun _ => by kernel_rfl) ?_
    refine rw_p 24 (.int .i64 0) (fun _ => by kernel_rfl) (fun _ => by kernel_rfl) ?_
    refine rw_p 25 (.slice (some ⟨w.heap.size, 0, none⟩) 0 cap9) (fun _ => by kernel_rfl) (fun _ => ol_cut0 (n := k) _ _ rfl (by kernel_rfl) (by kernel_rfl)) ?_
    refine rw_p 0 (.slice (some ⟨w.heap.size, 0, none⟩) 0 cap9) (fun _ => by kernel_rfl) (fun _ => by kernel_rfl) ?_
    refine rw_nil ?_
    refine nw_then ?_
    refine cw_seq ?_
    refine cw_region ?_
    refine rw_p 26 (.slice (some ⟨w.heap.size, 0, none⟩) 0 cap9) (fun _ => by kernel_rfl) (fun _ => by kernel_rfl) ?_
    refine rw_p 4 (.slice (some ⟨w.heap.size, 0, none⟩) 0 cap9) (fun _ => by kernel_rfl) (fun _ => by kernel_rfl) ?_
    refine rw_nil ?_
    refine nw_then ?_
    refine cw_ret ?_
    exact nw_ret_body (.slice (some ⟨w.heap.size, 0, none⟩) 0 cap9) (fun _ => by kernel_rfl) ⟨_, rfl, ho9, hb9⟩
  | false =>
    refine cw_cond_f (fun _ => by kernel_rfl) ?_
    refine cw_skip ?_
    refine nw_then ?_
    refine cw_seq ?_
    refine cw_region ?_
    refine rw_p 26 (.slice none 0 0) (fun _ => by kernel_rfl) (fun _ => by kernel_rfl) ?_
    refine rw_p 4 (.slice none 0 0) (fun _ => by kernel_rfl) (fun _ => by kernel_rfl) ?_
    refine rw_nil ?_
    refine nw_then ?_
    refine cw_ret ?_
    exact nw_ret_body (.slice none 0 0) (fun _ => by kernel_rfl) ⟨_, rfl, ⟨rfl, .inl ⟨rfl, rfl⟩⟩, hB⟩
set_option maxHeartbeats 1000000 in
theorem concat_any {K K' : Nat → Prop} {w : World} {a a' : Option Addr} {n c n' c' : Nat} {p q : List Int} (h1 : Sk K w a n c p) (h2 : Sk K' w a' n' c' q) {g : Nat} (hL : Rw g w #[.slice a n c, .slice a' n' c'] 27) (hn : n ≤ 100000) (hn' : n' ≤ 100000) :
    Calls Tryz.prog 174 #[.slice (some ⟨g, 0, none⟩) 2 2] w fun e w' => ∃ u, e = .returned u ∧ ∃ a2 n2 c2, u = .slice a2 n2 c2 ∧ Sk (fun b => w.heap.size ≤ b) w' a2 n2 c2 (p ++ q) ∧ Bl w w' := by
  have hw1 : ∀ x, a = some x → 0 < n → x.block < w.heap.size := fun x hx hn => h1.old hx hn
  have hw2 : ∀ x, a' = some x → 0 < n' → x.block < w.heap.size := fun x hx hn => h2.old hx hn
  have hgw : g < w.heap.size := lt_of_get hL
  have hB := Bl.refl w
  have l1 := h1.len
  have l2 := h2.len
  refine cw_enter Tryz.func174 rfl 36 rfl ?_
  show CW _ _ _ _ _ _ _ [(0, .slice (some ⟨g, 0, none⟩) 2 2)] _
  refine cw_seq ?_
  refine cw_region ?_
  refine rw_p 2 (.slice none 0 0) (fun _ => by kernel_rfl) (fun _ => by kernel_rfl) ?_
  refine rw_nil ?_
  refine nw_then ?_
  refine cw_seq ?_
  refine cw_region ?_
  refine rw_p 3 (.int .i64 0) (fun _ => by kernel_rfl) (fun _ => by kernel_rfl) ?_
  refine rw_nil ?_
  refine nw_then ?_
  refine cw_seq ?_
  refine cw_seq ?_
  refine cw_region ?_
  refine rw_p 9 (.slice (some ⟨g, 0, none⟩) 2 2) (fun _ => by kernel_rfl) (fun _ => by kernel_rfl) ?_
  refine rw_p 10 (.int .i64 2) (fun _ => by kernel_rfl) (fun _ => by kernel_rfl) ?_
  refine rw_p 11 (.int .i64 0) (fun _ => by kernel_rfl) (fun _ => by kernel_rfl) ?_
  refine rw_nil ?_
  refine nw_then ?_
  refine cw_block ?_
  refine cw_loop (X := Nat × Nat) (fun x => [(11, .int .i64 ((x.1 : Nat) : Int)), (3, .int .i64 ((x.2 : Nat) : Int)), (9, .slice (some ⟨g, 0, none⟩) 2 2), (10, .int .i64 2), (0, .slice (some ⟨g, 0, none⟩) 2 2), (2, .slice none 0 0)]) (fun x v => (Sk K v a n c p ∧ Sk K' v a' n' c' q ∧ Rw g v #[.slice a n c, .slice a' n' c'] 27 ∧ Bl w v) ∧ (x = (0, 0) ∨ x = (1, n) ∨ x = (2, n + n'))) (fun x => 2 - x.1) (0, 0) (by exact ⟨fun _ => by kernel_rfl, ⟨fun _ => by kernel_rfl, ⟨fun _ => by kernel_rfl, ⟨fun _ => by kernel_rfl, ⟨fun _ => by kernel_rfl, ⟨fun _ => by kernel_rfl, trivial⟩⟩⟩⟩⟩⟩) ⟨⟨h1, h2, hL, hB⟩, .inl rfl⟩ ?_
  clear h1 h2 hL hB
  rintro x v ⟨⟨h1, h2, hL, hB⟩, hx⟩
  rcases hx with rfl | rfl | rfl
  · skip
    show CW _ _ _ _ _ _ _ [(11, .int .i64 0), (3, .int .i64 0), (9, .slice (some ⟨g, 0, none⟩) 2 2), (10, .int .i64 2), (0, .slice (some ⟨g, 0, none⟩) 2 2), (2, .slice none 0 0)] _
    refine cw_seq ?_
    refine cw_region ?_
    refine rw_p 12 (.bool true) (fun _ => by kernel_rfl) (fun _ => by kernel_rfl) ?_
    refine rw_nil ?_
    refine nw_then ?_
    refine cw_seq ?_
    refine cw_cond_t (fun _ => by kernel_rfl) ?_
    refine cw_skip ?_
    refine nw_then ?_
    refine cw_seq ?_
    refine cw_block ?_
    refine cw_seq ?_
    refine cw_region ?_
    refine rw_p 13 (.pointer (some ⟨g, 0, none⟩)) (fun _ => by kernel_rfl) (fun _ => by kernel_rfl) ?_
    refine rw_p 14 (.slice a n c) (fun _ => by kernel_rfl) (fun _ => ol_cell 27 _ ⟨g, 0, none⟩ _ _ rfl (by kernel_rfl) (by rw [cell_of_row _ _ _ _ _ _ hL]; rfl) Tryz.underlying27 rfl) ?_
    refine rw_p 5 (.slice a n c) (fun _ => by kernel_rfl) (fun _ => by kernel_rfl) ?_
    refine rw_nil ?_
    refine nw_then ?_
    refine cw_seq ?_
    refine cw_region ?_
    refine rw_p 15 (.int .i64 0) (fun _ => by kernel_rfl) (fun _ => by kernel_rfl) ?_
    refine rw_p 16 (.slice a n c) (fun _ => by kernel_rfl) (fun _ => by kernel_rfl) ?_
    refine rw_p 17 (.int .i64 n) (fun _ => by kernel_rfl) (fun _ => by kernel_rfl) ?_
    refine rw_p 18 (.int .i64 ((n : Nat) : Int)) (fun _ => by kernel_rfl) (fun _ => ol_conv (v := .int .i64 (IntKind.i64.wrap ((0 : Int) + ((n : Nat) : Int)))) (by kernel_rfl) (congrArg (Value.int .i64) (by rw [wrap64 (by omega) (by omega)]; omega))) ?_
    refine rw_p 3 (.int .i64 ((n : Nat) : Int)) (fun _ => by kernel_rfl) (fun _ => by kernel_rfl) ?_
    refine rw_nil ?_
    refine nw_then ?_
    refine cw_seq ?_
    refine cw_region ?_
    refine rw_p 19 (.int .i64 ((n : Nat) : Int)) (fun _ => by kernel_rfl) (fun _ => by kernel_rfl) ?_
    refine rw_p 20 (.bool false) (fun _ => by kernel_rfl) (fun _ => ol_conv (v := .bool (decide (((n : Nat) : Int) < (0 : Int)))) (by kernel_rfl) (congrArg Value.bool (decide_eq_false (by omega)))) ?_
    refine rw_nil ?_
    refine nw_then ?_
    refine cw_cond_f (fun _ => by kernel_rfl) ?_
    refine cw_skip ?_
    refine nw_block ?_
    refine nw_then ?_
    refine cw_region ?_
    refine rw_p 22 (.int .i64 1) (fun _ => by kernel_rfl) (fun _ => by kernel_rfl) ?_
    refine rw_p 11 (.int .i64 1) (fun _ => by kernel_rfl) (fun _ => by kernel_rfl) ?_
    refine rw_nil ?_
    exact nw_round (E := fun x => [(11, .int .i64 ((x.1 : Nat) : Int)), (3, .int .i64 ((x.2 : Nat) : Int)), (9, .slice (some ⟨g, 0, none⟩) 2 2), (10, .int .i64 2), (0, .slice (some ⟨g, 0, none⟩) 2 2), (2, .slice none 0 0)]) (R := fun x v => (Sk K v a n c p ∧ Sk K' v a' n' c' q ∧ Rw g v #[.slice a n c, .slice a' n' c'] 27 ∧ Bl w v) ∧ (x = (0, 0) ∨ x = (1, n) ∨ x = (2, n + n'))) (μ := fun x => 2 - x.1) (x := (0, 0)) (1, n) (by exact ⟨fun _ => by kernel_rfl, ⟨fun _ => by kernel_rfl, ⟨fun _ => by kernel_rfl, ⟨fun _ => by kernel_rfl, ⟨fun _ => by kernel_rfl, ⟨fun _ => by kernel_rfl, trivial⟩⟩⟩⟩⟩⟩) ⟨⟨h1, h2, hL, hB⟩, .inr (.inl rfl)⟩ (by show 2 - 1 < 2 - 0; omega)
  · skip
    show CW _ _ _ _ _ _ _ [(11, .int .i64 1), (3, .int .i64 ((n : Nat) : Int)), (9, .slice (some ⟨g, 0, none⟩) 2 2), (10, .int .i64 2), (0, .slice (some ⟨g, 0, none⟩) 2 2), (2, .slice none 0 0)] _
    refine cw_seq ?_
    refine cw_region ?_
    refine rw_p 12 (.bool true) (fun _ => by kernel_rfl) (fun _ => by kernel_rfl) ?_
    refine rw_nil ?_
    refine nw_then ?_
    refine cw_seq ?_
    refine cw_cond_t (fun _ => by kernel_rfl) ?_
    refine cw_skip ?_
    refine nw_then ?_
    refine cw_seq ?_
    refine cw_block ?_
    refine cw_seq ?_
    refine cw_region ?_
    refine rw_p 13 (.pointer (some ⟨g, 1, none⟩)) (fun _ => by kernel_rfl) (fun _ => by kernel_rfl) ?_
    refine rw_p 14 (.slice a' n' c') (fun _ => by kernel_rfl) (fun _ => ol_cell 27 _ ⟨g, 1, none⟩ _ _ rfl (by kernel_rfl) (by rw [cell_of_row _ _ _ _ _ _ hL]; rfl) Tryz.underlying27 rfl) ?_
    refine rw_p 5 (.slice a' n' c') (fun _ => by kernel_rfl) (fun _ => by kernel_rfl) ?_
    refine rw_nil ?_
    refine nw_then ?_
    refine cw_seq ?_
    refine cw_region ?_
    refine rw_p 15 (.int .i64 ((n : Nat) : Int)) (fun _ => by kernel_rfl) (fun _ => by kernel_rfl) ?_
    refine rw_p 16 (.slice a' n' c') (fun _ => by kernel_rfl) (fun _ => by kernel_rfl) ?_
    refine rw_p 17 (.int .i64 n') (fun _ => by kernel_rfl) (fun _ => by kernel_rfl) ?_
    refine rw_p 18 (.int .i64 ((n + n' : Nat) : Int)) (fun _ => by kernel_rfl) (fun _ => ol_conv (v := .int .i64 (IntKind.i64.wrap (((n : Nat) : Int) + ((n' : Nat) : Int)))) (by kernel_rfl) (congrArg (Value.int .i64) (by rw [wrap64 (by omega) (by omega)]; omega))) ?_
    refine rw_p 3 (.int .i64 ((n + n' : Nat) : Int)) (fun _ => by kernel_rfl) (fun _ => by kernel_rfl) ?_
    refine rw_nil ?_
    refine nw_then ?_
    refine cw_seq ?_
    refine cw_region ?_
    refine rw_p 19 (.int .i64 ((n + n' : Nat) : Int)) (fun _ => by kernel_rfl) (fun _ => by kernel_rfl) ?_
    refine rw_p 20 (.bool false) (fun _ => by kernel_rfl) (fun _ => ol_conv (v := .bool (decide (((n + n' : Nat) : Int) < (0 : Int)))) (by kernel_rfl) (congrArg Value.bool (decide_eq_false (by omega)))) ?_
    refine rw_nil ?_
    refine nw_then ?_
    refine cw_cond_f (fun _ => by kernel_rfl) ?_
    refine cw_skip ?_
    refine nw_block ?_
    refine nw_then ?_
    refine cw_region ?_
    refine rw_p 22 (.int .i64 2) (fun _ => by kernel_rfl) (fun _ => by kernel_rfl) ?_
    refine rw_p 11 (.int .i64 2) (fun _ => by kernel_rfl) (fun _ => by kernel_rfl) ?_
    refine rw_nil ?_
    exact nw_round (E := fun x => [(11, .int .i64 ((x.1 : Nat) : Int)), (3, .int .i64 ((x.2 : Nat) : Int)), (9, .slice (some ⟨g, 0, none⟩) 2 2), (10, .int .i64 2), (0, .slice (some ⟨g, 0, none⟩) 2 2), (2, .slice none 0 0)]) (R := fun x v => (Sk K v a n c p ∧ Sk K' v a' n' c' q ∧ Rw g v #[.slice a n c, .slice a' n' c'] 27 ∧ Bl w v) ∧ (x = (0, 0) ∨ x = (1, n) ∨ x = (2, n + n'))) (μ := fun x => 2 - x.1) (x := (1, n)) (2, n + n') (by exact ⟨fun _ => by kernel_rfl, ⟨fun _ => by kernel_rfl, ⟨fun _ => by kernel_rfl, ⟨fun _ => by kernel_rfl, ⟨fun _ => by kernel_rfl, ⟨fun _ => by kernel_rfl, trivial⟩⟩⟩⟩⟩⟩) ⟨⟨h1, h2, hL, hB⟩, .inr (.inr rfl)⟩ (by show 2 - 2 < 2 - 1; omega)
  · skip
    show CW _ _ _ _ _ _ _ [(11, .int .i64 2), (3, .int .i64 ((n + n' : Nat) : Int)), (9, .slice (some ⟨g, 0, none⟩) 2 2), (10, .int .i64 2), (0, .slice (some ⟨g, 0, none⟩) 2 2), (2, .slice none 0 0)] _
    refine cw_seq ?_
    refine cw_region ?_
    refine rw_p 12 (.bool false) (fun _ => by kernel_rfl) (fun _ => by kernel_rfl) ?_
    refine rw_nil ?_
    refine nw_then ?_
    refine cw_seq ?_
    refine cw_cond_f (fun _ => by kernel_rfl) ?_
    refine cw_exit ?_
    refine nw_exit_then ?_
    refine nw_exit_then ?_
    refine nw_exit_here ?_
    refine nw_then ?_
    refine cw_seq ?_
    have hB0 := hB
    refine cw_region ?_
    refine rw_p 23 (.int .i64 ((n + n' : Nat) : Int)) (fun _ => by kernel_rfl) (fun _ => by kernel_rfl) ?_
    refine rw_call 24 177 #[.slice none 0 0, .int .i64 ((n + n' : Nat) : Int)] (fun _ => by kernel_rfl) (fun _ => by kernel_rfl) (R := fun u w' => OwnB w' v.heap.size u [] ∧ Bl v w') (grow_any (n + n') (by omega)) ?_
    rintro vO u1 ⟨hO, hb1⟩
    replace h1 := h1.go hb1
    replace h2 := h2.go hb1
    replace hB := hB.go hb1
    replace hL := hL.go hb1
    have hsz := hB.size
    refine rw_p 6 (vO) (fun _ => by kernel_rfl) (fun _ => by kernel_rfl) ?_
    refine rw_nil ?_
    refine nw_then ?_
    refine cw_seq ?_
    refine cw_seq ?_
    refine cw_region ?_
    refine rw_p 25 (.slice (some ⟨g, 0, none⟩) 2 2) (fun _ => by kernel_rfl) (fun _ => by kernel_rfl) ?_
    refine rw_p 26 (.int .i64 2) (fun _ => by kernel_rfl) (fun _ => by kernel_rfl) ?_
    refine rw_p 27 (.int .i64 0) (fun _ => by kernel_rfl) (fun _ => by kernel_rfl) ?_
    refine rw_nil ?_
    refine nw_then ?_
    refine cw_block ?_
    have hbv := hb1.size
    refine cw_loop (X := Nat × Value) (fun x => [(27, .int .i64 ((x.1 : Nat) : Int)), (6, x.2), (25, .slice (some ⟨g, 0, none⟩) 2 2), (26, .int .i64 2)]) (fun x v' => (Sk K v' a n c p ∧ Sk K' v' a' n' c' q ∧ Rw g v' #[.slice a n c, .slice a' n' c'] 27 ∧ Bl w v') ∧ v.heap.size ≤ v'.heap.size ∧ ((x.1 = 0 ∧ OwnB v' v.heap.size x.2 []) ∨ (x.1 = 1 ∧ OwnB v' v.heap.size x.2 p) ∨ (x.1 = 2 ∧ OwnB v' v.heap.size x.2 (p ++ q)))) (fun x => 2 - x.1) (0, vO) (by exact ⟨fun _ => by kernel_rfl, ⟨fun _ => by kernel_rfl, ⟨fun _ => by kernel_rfl, ⟨fun _ => by kernel_rfl, trivial⟩⟩⟩⟩) ⟨⟨h1, h2, hL, hB⟩, hbv, .inl ⟨rfl, hO⟩⟩ ?_
    have hwv := hB0.size
    clear h1 h2 hL hB hO hbv
    rintro ⟨j, vP⟩ v' ⟨⟨h1, h2, hL, hB⟩, hbv, hx⟩
    rcases hx with ⟨hj, hO⟩ | ⟨hj, hO⟩ | ⟨hj, hO⟩ <;> simp only at hj hO <;> subst hj
    · skip
      show CW _ _ _ _ _ _ _ [(27, .int .i64 0), (6, vP), (25, .slice (some ⟨g, 0, none⟩) 2 2), (26, .int .i64 2)] _
      refine cw_seq ?_
      refine cw_region ?_
      refine rw_p 28 (.bool true) (fun _ => by kernel_rfl) (fun _ => by kernel_rfl) ?_
      refine rw_nil ?_
      refine nw_then ?_
      refine cw_seq ?_
      refine cw_cond_t (fun _ => by kernel_rfl) ?_
      refine cw_skip ?_
      refine nw_then ?_
      refine cw_seq ?_
      refine cw_block ?_
      refine cw_seq ?_
      refine cw_region ?_
      refine rw_p 29 (.pointer (some ⟨g, 0, none⟩)) (fun _ => by kernel_rfl) (fun _ => by kernel_rfl) ?_
      refine rw_p 30 (.slice a n c) (fun _ => by kernel_rfl) (fun _ => ol_cell 27 _ ⟨g, 0, none⟩ _ _ rfl (by kernel_rfl) (by rw [cell_of_row _ _ _ _ _ _ hL]; rfl) Tryz.underlying27 rfl) ?_
      refine rw_p 8 (.slice a n c) (fun _ => by kernel_rfl) (fun _ => by kernel_rfl) ?_
      refine rw_nil ?_
      refine nw_then ?_
      refine cw_region ?_
      refine rw_p 31 (vP) (fun _ => by kernel_rfl) (fun _ => by kernel_rfl) ?_
      refine rw_p 32 (.slice a n c) (fun _ => by kernel_rfl) (fun _ => by kernel_rfl) ?_
      obtain ⟨v1, w9, hr9, ho9, hb9⟩ := app_run hO h1.ag (by simp; omega) hbv
      rw [List.nil_append] at ho9
      refine rw_v 33 v1 (fun _ => by kernel_rfl) (fun _ => ol_app hr9 _ _ rfl (by kernel_rfl) (by kernel_rfl)) ?_
      have hb9' : Below w.heap.size v' w9 := hb9.mono hwv
      replace h1 := h1.under hw1 hb9'
      replace h2 := h2.under hw2 hb9'
      replace hL := hL.under hgw hb9'
      replace hB : Bl w w9 := Below.trans hB hb9'
      refine rw_p 6 (v1) (fun _ => by kernel_rfl) (fun _ => by kernel_rfl) ?_
      refine rw_nil ?_
      refine nw_block ?_
      refine nw_then ?_
      refine cw_region ?_
      refine rw_p 34 (.int .i64 1) (fun _ => by kernel_rfl) (fun _ => by kernel_rfl) ?_
      refine rw_p 27 (.int .i64 1) (fun _ => by kernel_rfl) (fun _ => by kernel_rfl) ?_
      refine rw_nil ?_
      exact nw_round (E := fun x => [(27, .int .i64 ((x.1 : Nat) : Int)), (6, x.2), (25, .slice (some ⟨g, 0, none⟩) 2 2), (26, .int .i64 2)]) (R := fun x v' => (Sk K v' a n c p ∧ Sk K' v' a' n' c' q ∧ Rw g v' #[.slice a n c, .slice a' n' c'] 27 ∧ Bl w v') ∧ v.heap.size ≤ v'.heap.size ∧ ((x.1 = 0 ∧ OwnB v' v.heap.size x.2 []) ∨ (x.1 = 1 ∧ OwnB v' v.heap.size x.2 p) ∨ (x.1 = 2 ∧ OwnB v' v.heap.size x.2 (p ++ q)))) (μ := fun x => 2 - x.1) (x := (0, vP)) (1, v1) (by exact ⟨fun _ => by kernel_rfl, ⟨fun _ => by kernel_rfl, ⟨fun _ => by kernel_rfl, ⟨fun _ => by kernel_rfl, trivial⟩⟩⟩⟩) ⟨⟨h1, h2, hL, hB⟩, by have := hb9.size; omega, .inr (.inl ⟨rfl, ho9⟩)⟩ (by show 2 - 1 < 2 - 0; omega)
    · skip
      show CW _ _ _ _ _ _ _ [(27, .int .i64 1), (6, vP), (25, .slice (some ⟨g, 0, none⟩) 2 2), (26, .int .i64 2)] _
      refine cw_seq ?_
      refine cw_region ?_
      refine rw_p 28 (.bool true) (fun _ => by kernel_rfl) (fun _ => by kernel_rfl) ?_
      refine rw_nil ?_
      refine nw_then ?_
      refine cw_seq ?_
      refine cw_cond_t (fun _ => by kernel_rfl) ?_
      refine cw_skip ?_
      refine nw_then ?_
      refine cw_seq ?_
      refine cw_block ?_
      refine cw_seq ?_
      refine cw_region ?_
      refine rw_p 29 (.pointer (some ⟨g, 1, none⟩)) (fun _ => by kernel_rfl) (fun _ => by kernel_rfl) ?_
      refine rw_p 30 (.slice a' n' c') (fun _ => by kernel_rfl) (fun _ => ol_cell 27 _ ⟨g, 1, none⟩ _ _ rfl (by kernel_rfl) (by rw [cell_of_row _ _ _ _ _ _ hL]; rfl) Tryz.underlying27 rfl) ?_
      refine rw_p 8 (.slice a' n' c') (fun _ => by kernel_rfl) (fun _ => by kernel_rfl) ?_
      refine rw_nil ?_
      refine nw_then ?_
      refine cw_region ?_
      refine rw_p 31 (vP) (fun _ => by kernel_rfl) (fun _ => by kernel_rfl) ?_
      refine rw_p 32 (.slice a' n' c') (fun _ => by kernel_rfl) (fun _ => by kernel_rfl) ?_
      obtain ⟨v1, w9, hr9, ho9, hb9⟩ := app_run hO h2.ag (by omega) hbv
      refine rw_v 33 v1 (fun _ => by kernel_rfl) (fun _ => ol_app hr9 _ _ rfl (by kernel_rfl) (by kernel_rfl)) ?_
      have hb9' : Below w.heap.size v' w9 := hb9.mono hwv
      replace h1 := h1.under hw1 hb9'
      replace h2 := h2.under hw2 hb9'
      replace hL := hL.under hgw hb9'
      replace hB : Bl w w9 := Below.trans hB hb9'
      refine rw_p 6 (v1) (fun _ => by kernel_rfl) (fun _ => by kernel_rfl) ?_
      refine rw_nil ?_
      refine nw_block ?_
      refine nw_then ?_
      refine cw_region ?_
      refine rw_p 34 (.int .i64 2) (fun _ => by kernel_rfl) (fun _ => by kernel_rfl) ?_
      refine rw_p 27 (.int .i64 2) (fun _ => by kernel_rfl) (fun _ => by kernel_rfl) ?_
      refine rw_nil ?_
      exact nw_round (E := fun x => [(27, .int .i64 ((x.1 : Nat) : Int)), (6, x.2), (25, .slice (some ⟨g, 0, none⟩) 2 2), (26, .int .i64 2)]) (R := fun x v' => (Sk K v' a n c p ∧ Sk K' v' a' n' c' q ∧ Rw g v' #[.slice a n c, .slice a' n' c'] 27 ∧ Bl w v') ∧ v.heap.size ≤ v'.heap.size ∧ ((x.1 = 0 ∧ OwnB v' v.heap.size x.2 []) ∨ (x.1 = 1 ∧ OwnB v' v.heap.size x.2 p) ∨ (x.1 = 2 ∧ OwnB v' v.heap.size x.2 (p ++ q)))) (μ := fun x => 2 - x.1) (x := (1, vP)) (2, v1) (by exact ⟨fun _ => by kernel_rfl, ⟨fun _ => by kernel_rfl, ⟨fun _ => by kernel_rfl, ⟨fun _ => by kernel_rfl, trivial⟩⟩⟩⟩) ⟨⟨h1, h2, hL, hB⟩, by have := hb9.size; omega, .inr (.inr ⟨rfl, ho9⟩)⟩ (by show 2 - 2 < 2 - 1; omega)
    · skip
      show CW _ _ _ _ _ _ _ [(27, .int .i64 2), (6, vP), (25, .slice (some ⟨g, 0, none⟩) 2 2), (26, .int .i64 2)] _
      refine cw_seq ?_
      refine cw_region ?_
      refine rw_p 28 (.bool false) (fun _ => by kernel_rfl) (fun _ => by kernel_rfl) ?_
      refine rw_nil ?_
      refine nw_then ?_
      refine cw_seq ?_
      refine cw_cond_f (fun _ => by kernel_rfl) ?_
      refine cw_exit ?_
      refine nw_exit_then ?_
      refine nw_exit_then ?_
      refine nw_exit_here ?_
      refine nw_then ?_
      refine cw_seq ?_
      refine cw_region ?_
      refine rw_p 35 (vP) (fun _ => by kernel_rfl) (fun _ => by kernel_rfl) ?_
      refine rw_p 2 (vP) (fun _ => by kernel_rfl) (fun _ => by kernel_rfl) ?_
      refine rw_nil ?_
      refine nw_then ?_
      refine cw_ret ?_
      obtain ⟨a9, c9, rfl, hs9⟩ := hO.sk (K := fun b => w.heap.size ≤ b) (mem_app h1.ag.b h2.ag.b) (fun b hb => by omega)
      exact nw_ret_body (.slice a9 (p ++ q).length c9) (fun _ => by kernel_rfl) ⟨_, rfl, _, _, _, rfl, hs9, hB⟩
end Go.Proofs.YtalhnnjpjaeakaaGreat

/- A walk by environments: a frame is known by the slots that were written, no more. -/
import Derived.Test.YtmofehloiiopfaaProg
import Derived.Deep.RegionHeld
import Derived.Deep.LoopGhost
import Derived.Deep.RegionHeld3
import Derived.RangeFuncCalls
import Derived.TacticsIn
import Derived.RangeFuncLeaves
import Derived.KernelRfl
import Derived.Test.YtmofehloiiopfaaG00
import Derived.Deep.MidRow
namespace Go.Proofs.Ytmofehloiiopfaa
set_option linter.unusedVariables false
set_option maxRecDepth 100000
abbrev Env := List (Nat × Value)
def lkF : Env → (Nat → Value) → Nat → Value
  | [], fb, t => fb t
  | (d, v) :: r, fb, t => bif Nat.beq d t then v else lkF r fb t
def ev (env : Env) (fb : Nat → Value) : Operand → Value
  | .tmp t => lkF env fb t
  | .const v => v
  | .global g => .pointer (some ⟨g, 0, none⟩)
  | .func f => .func (.func f) #[] #[]
structure Frm (ds : List Deferred) (n : Nat) (env : Env) (a : Act) : Prop where
  df : a.defers = ds
  sz : a.tmps.size = n
  get : ∀ t, a.tmps.getD t undef = lkF env (fun t => a.tmps.getD t undef) t
theorem Frm.ev {ds : List Deferred} {n : Nat} {env : Env} {a : Act} (h : Frm ds n env a) : a.eval = Go.Proofs.Ytmofehloiiopfaa.ev env (fun t => a.tmps.getD t undef) := by
  funext x
  cases x with
  | tmp t => exact h.get t
  | const v => rfl
  | global g => rfl
  | func f => rfl
theorem fr_put {ds : List Deferred} {n : Nat} {env : Env} {a : Act} (h : Frm ds n env a) {d : Nat} (hd : d < n) (v : Value) : Frm ds n ((d, v) :: env) (a.put (some d) v) := by
  refine ⟨h.df, by simp [Act.put, h.sz], fun t => ?_⟩
  have e : ∀ u, (a.put (some d) v).tmps.getD u undef = if d = u then v else a.tmps.getD u undef := by
    intro u
    have hs : d < a.tmps.size := by rw [h.sz]; exact hd
    simp only [Act.put, Array.getD_eq_getD_getElem?, Array.getElem?_setIfInBounds]
    by_cases hu : d = u
    · subst hu; simp [hs]
    · simp [hu]
  rw [e t]
  simp only [lkF]
  by_cases hu : d = t
  · subst hu; simp
  · rw [if_neg hu]
    have hb : Nat.beq d t = false := by
      cases hq : Nat.beq d t with
      | true => exact absurd (Nat.eq_of_beq_eq_true hq) hu
      | false => rfl
    rw [hb]
    simp only [cond_false]
    have key : ∀ (e' : Env) (f1 f2 : Nat → Value), f1 t = f2 t → lkF e' f1 t = lkF e' f2 t := by
      intro e' f1 f2 hf
      induction e' with
      | nil => exact hf
      | cons p r ih => obtain ⟨d', v'⟩ := p; simp only [lkF]; rw [ih]
    rw [key env (fun u => (a.put (some d) v).tmps.getD u undef) (fun u => a.tmps.getD u undef) (by simp only [e t, if_neg hu])]
    exact h.get t
def SubE (env : Env) : Env → Prop
  | [] => True
  | p :: r => (∀ fb, lkF env fb p.1 = p.2) ∧ SubE env r
theorem Frm.sub {ds : List Deferred} {n : Nat} {env env' : Env} {a : Act} (h : Frm ds n env a) (hs : SubE env env') : Frm ds n env' a := by
  refine ⟨h.df, h.sz, fun t => ?_⟩
  have key : ∀ (e : Env), SubE env e → a.tmps.getD t undef = lkF e (fun t => a.tmps.getD t undef) t := by
    intro e
    induction e with
    | nil => intro _; rfl
    | cons p r ih =>
      intro hs
      obtain ⟨d, v⟩ := p
      simp only [lkF]
      cases hq : Nat.beq d t with
      | false => simpa using ih hs.2
      | true =>
        have := Nat.eq_of_beq_eq_true hq
        subst this
        simp only [cond_true]
        rw [h.get d]
        exact hs.1 _
  exact key env' hs
def yF (ops : Array Oper) (env : Env) (fb : Nat → Value) (j : Nat) : Option Bool :=
  match (ops[j]?).bind (·.dst) with
  | some d => match lkF env fb d with
    | .bool b => some b
    | _ => none
  | none => none
theorem Frm.yielded {ds : List Deferred} {n : Nat} {env : Env} {a : Act} (h : Frm ds n env a) (ops : Array Oper) (j : Nat) : Go.yielded ops a.tmps j = yF ops env (fun t => a.tmps.getD t undef) j := by
  unfold Go.yielded yF
  cases (ops[j]?).bind (·.dst) with
  | none => rfl
  | some d =>
    have hg := h.get d
    simp only [Option.bind_some]
    rw [← hg]
    rw [Array.getD_eq_getD_getElem?]
    cases a.tmps[d]? with
    | none => rfl
    | some v => cases v <;> rfl
def noDefer (o : Oper) : Bool := match o.op with | .defer _ => false | _ => true
theorem noDefer_spec {o : Oper} (h : noDefer o = true) : ∀ c, o.op ≠ .defer c := by
  intro c e
  unfold noDefer at h
  rw [e] at h
  cases h
def chk (n : Nat) (ops : Array Oper) (env : Env) (fb : Nat → Value) (o : Oper) (d : Nat) : Bool :=
  (o.dst == some d) && Nat.blt d n && Region.wanted o (yF ops env fb) && noDefer o
def chk0 (ops : Array Oper) (env : Env) (fb : Nat → Value) (o : Oper) : Bool :=
  (o.dst == none) && Region.wanted o (yF ops env fb) && noDefer o
def off (n : Nat) (ops : Array Oper) (env : Env) (fb : Nat → Value) (o : Oper) (d : Nat) : Bool :=
  (o.dst == some d) && Nat.blt d n && !Region.wanted o (yF ops env fb)
theorem chk_spec {n : Nat} {ops : Array Oper} {env : Env} {fb : Nat → Value} {o : Oper} {d : Nat} (h : chk n ops env fb o d = true) : o.dst = some d ∧ d < n ∧ Region.wanted o (yF ops env fb) = true ∧ ∀ c, o.op ≠ .defer c := by
  unfold chk at h
  simp only [Bool.and_eq_true, beq_iff_eq] at h
  exact ⟨h.1.1.1, by simpa [Nat.blt_eq] using h.1.1.2, h.1.2, noDefer_spec h.2⟩
theorem chk0_spec {ops : Array Oper} {env : Env} {fb : Nat → Value} {o : Oper} (h : chk0 ops env fb o = true) : o.dst = none ∧ Region.wanted o (yF ops env fb) = true ∧ ∀ c, o.op ≠ .defer c := by
  unfold chk0 at h
  simp only [Bool.and_eq_true, beq_iff_eq] at h
  exact ⟨h.1.1, h.1.2, noDefer_spec h.2⟩
theorem off_spec {n : Nat} {ops : Array Oper} {env : Env} {fb : Nat → Value} {o : Oper} {d : Nat} (h : off n ops env fb o d = true) : o.dst = some d ∧ d < n ∧ Region.wanted o (yF ops env fb) = false := by
  unfold off at h
  simp only [Bool.and_eq_true, beq_iff_eq, Bool.not_eq_true'] at h
  exact ⟨h.1.1, by simpa [Nat.blt_eq] using h.1.2, h.2⟩
theorem Frm.want {ds : List Deferred} {n : Nat} {env : Env} {a : Act} (h : Frm ds n env a) (ops : Array Oper) (o : Oper) : Region.wanted o (Go.yielded ops a.tmps) = Region.wanted o (yF ops env (fun t => a.tmps.getD t undef)) := by
  have : Go.yielded ops a.tmps = yF ops env (fun t => a.tmps.getD t undef) := funext fun j => h.yielded ops j
  rw [this]
/-- The fence that bars nothing, in a round or not. -/
def fz (r : Option Nat) : Fence := { Fence.wide with round := r }
theorem callsIn_fz {r : Option Nat} {m : Nat} {P : Program} {f : FuncId} {args : Array Value} {w : World} {R : Ending → World → Prop} : CallsIn (fz r) m P f args w R ↔ Calls P f args w R := callsIn_wide (n := m)
theorem CallsIn.mono' {F : Fence} {n : Nat} {P : Program} {f : FuncId} {args : Array Value} {w : World} {R R' : Ending → World → Prop} (h : CallsIn F n P f args w R) (hr : ∀ e w', R e w' → R' e w') : CallsIn F n P f args w R' :=
  ⟨h.1, fun cs hroom => let ⟨e, w', fr, q, s⟩ := h.2 cs hroom; ⟨e, w', fr, hr _ _ q, s⟩⟩
theorem wpIn_loop_ghost {F : Fence} {n : Nat} {P : Program} {Q : Exit → Act → World → Prop} {a : Act} {w : World} {c : Code} (I : Nat → Act → World → Prop) (n₀ : Nat) (h₀ : I n₀ a w)
    (round : ∀ k a w, I k a w → c.wpIn F n P (Exit.then (fun a' w' => ∃ k', k' < k ∧ I k' a' w') Q) a w) : (Code.loop c).wpIn F n P Q a w := by
  refine wpIn_loop (fun a w => ∃ n, I n a w) (fun a w => leastOf (fun n => I n a w)) ⟨n₀, h₀⟩ ?_
  intro a w hI
  refine wpIn_mono (round _ a w (leastOf_spec hI).1) ?_
  intro e a' w' hq
  cases e with
  | normal =>
    obtain ⟨n', hlt, hI'⟩ := hq
    exact show (∃ n, I n a' w') ∧ leastOf (fun n => I n a' w') < leastOf (fun n => I n a w) from ⟨⟨n', hI'⟩, Nat.lt_of_le_of_lt ((leastOf_spec ⟨n', hI'⟩).2 n' hI') hlt⟩
  | exit id => exact hq
  | goto l => exact hq
  | ret => exact hq
  | panic ch => exact hq
  | outgrown => exact hq
section
variable {r : Option Nat} {m : Nat} {P : Program} {ds : List Deferred} {n : Nat} {Q : Exit → Act → World → Prop} {env : Env} {w : World}
def NW (ds : List Deferred) (n : Nat) (Q : Exit → Act → World → Prop) (e : Exit) (env : Env) (w : World) : Prop := ∀ a, Frm ds n env a → Q e a w
def CW (r : Option Nat) (m : Nat) (P : Program) (ds : List Deferred) (n : Nat) (Q : Exit → Act → World → Prop) (c : Code) (env : Env) (w : World) : Prop := ∀ a, Frm ds n env a → c.wpIn (fz r) m P Q a w
def RW (r : Option Nat) (m : Nat) (P : Program) (ds : List Deferred) (n : Nat) (Q : Exit → Act → World → Prop) (ops : Array Oper) (l : List Oper) (env : Env) (w : World) : Prop := ∀ a, Frm ds n env a → wpListIn (fz r) m P ops Q l a w
def DW (P : Program) (ds : List Deferred) (n : Nat) (Q : Exit → Act → World → Prop) (ops : Array Oper) (S : World → Prop) (fuel : Nat) (listed : Array Bool) (env : Env) (w : World) : Prop := ∀ a, Frm ds n env a → wpAnyH P .any ops Q S fuel listed a w
def AR (P : Program) (ds : List Deferred) (n : Nat) (Q : Exit → Act → World → Prop) (ops : Array Oper) (S : World → Prop) (fuel : Nat) (listed : Array Bool) (env : Env) (w : World) (rs : List Nat) : Prop := ∀ a, Frm ds n env a → AllReadyH P .any ops Q S fuel listed a w rs
theorem cw_sub (env' : Env) {c : Code} (hs : SubE env env') (h : CW r m P ds n Q c env' w) : CW r m P ds n Q c env w := fun a ha => h a (ha.sub hs)
theorem cw_seq {x y : Code} (h : CW r m P ds n (Exit.then (y.wpIn (fz r) m P Q) Q) x env w) : CW r m P ds n Q (.seq x y) env w := fun a ha => wpIn_seq (h a ha)
theorem nw_then {y : Code} (h : CW r m P ds n Q y env w) : NW ds n (Exit.then (y.wpIn (fz r) m P Q) Q) .normal env w := h
theorem nw_block {id : Nat} (h : NW ds n Q .normal env w) : NW ds n (Exit.inBlock id Q) .normal env w := h
theorem cw_skip (h : NW ds n Q .normal env w) : CW r m P ds n Q .skip env w := fun a ha => wpIn_skip (h a ha)
theorem cw_exit {id : Nat} (h : NW ds n Q (.exit id) env w) : CW r m P ds n Q (.exit id) env w := fun a ha => wpIn_exit (h a ha)
theorem nw_exit_then {id : Nat} {K : Act → World → Prop} (h : NW ds n Q (.exit id) env w) : NW ds n (Exit.then K Q) (.exit id) env w := h
theorem nw_exit_here {id : Nat} (h : NW ds n Q .normal env w) : NW ds n (Exit.inBlock id Q) (.exit id) env w := fun a ha => by
  show if id = id then Q .normal a w else Q (.exit id) a w
  rw [if_pos rfl]
  exact h a ha
theorem cw_block {id : Nat} {c : Code} (h : CW r m P ds n (Exit.inBlock id Q) c env w) : CW r m P ds n Q (.block id c) env w := fun a ha => wpIn_block (h a ha)
theorem cw_ret (h : NW ds n Q .ret env w) : CW r m P ds n Q .ret env w := fun a ha => wpIn_ret (h a ha)
theorem nw_ret_then {K : Act → World → Prop} (h : NW ds n Q .ret env w) : NW ds n (Exit.then K Q) .ret env w := h
theorem nw_ret_block {id : Nat} (h : NW ds n Q .ret env w) : NW ds n (Exit.inBlock id Q) .ret env w := h
theorem cw_cond_t {c : Operand} {x y : Code} (hc : ∀ fb, ev env fb c = .bool true) (h : CW r m P ds n Q x env w) : CW r m P ds n Q (.cond c x y) env w := fun a ha => wpIn_cond_true (by rw [ha.ev]; exact hc _) (h a ha)
theorem cw_cond_f {c : Operand} {x y : Code} (hc : ∀ fb, ev env fb c = .bool false) (h : CW r m P ds n Q y env w) : CW r m P ds n Q (.cond c x y) env w := fun a ha => wpIn_cond_false (by rw [ha.ev]; exact hc _) (h a ha)
theorem cw_loop {c : Code} {X : Type} (E : X → Env) (R : X → World → Prop) (μ : X → Nat) (x0 : X) (hE : SubE env (E x0)) (h0 : R x0 w)
    (round : ∀ x v, R x v → CW r m P ds n (Exit.then (fun a' w' => ∃ k, k < μ x ∧ ∃ x', μ x' = k ∧ Frm ds n (E x') a' ∧ R x' w') Q) c (E x) v) : CW r m P ds n Q (.loop c) env w := fun a ha => by
  refine wpIn_loop_ghost (fun k a w => ∃ x, μ x = k ∧ Frm ds n (E x) a ∧ R x w) (μ x0) ⟨x0, rfl, ha.sub hE, h0⟩ ?_
  rintro k a v ⟨x, rfl, hF, hR⟩
  exact round x v hR a hF
theorem nw_round {X : Type} {E : X → Env} {R : X → World → Prop} {μ : X → Nat} {x : X} (x' : X) (hE : SubE env (E x')) (hR : R x' w) (hm : μ x' < μ x) :
    NW ds n (Exit.then (fun a' w' => ∃ k, k < μ x ∧ ∃ x', μ x' = k ∧ Frm ds n (E x') a' ∧ R x' w') Q) .normal env w := fun a ha => ⟨μ x', hm, x', rfl, ha.sub hE, hR⟩
def argE : Nat → List Value → Env
  | _, [] => []
  | k, v :: r => (k, v) :: argE (k + 1) r
theorem fr_args (args : Array Value) (k : Nat) : Frm [] (args ++ Array.replicate k undef).size (argE 0 args.toList) { tmps := args ++ Array.replicate k undef, defers := [] } := by
  refine ⟨rfl, rfl, fun t => ?_⟩
  have key : ∀ (l : List Value) (i : Nat) (fb : Nat → Value), (∀ j, l[j]?.isSome → fb (i + j) = (l[j]?).getD undef) → ∀ t, fb t = lkF (argE i l) fb t := by
    intro l
    induction l with
    | nil => intro i fb _ t; rfl
    | cons v r ih =>
      intro i fb h t
      simp only [argE, lkF]
      cases hq : Nat.beq i t with
      | true =>
        have := Nat.eq_of_beq_eq_true hq
        subst this
        simpa using h 0 (by simp)
      | false =>
        simp only [cond_false]
        refine ih (i + 1) fb (fun j hj => ?_) t
        have := h (j + 1) (by simpa using hj)
        rw [show i + 1 + j = i + (j + 1) from by omega]
        simpa using this
  refine key args.toList 0 (fun t => (args ++ Array.replicate k undef).getD t undef) (fun j hj => ?_) t
  have hj' : j < args.size := by
    rw [Option.isSome_iff_exists] at hj
    obtain ⟨v, hv⟩ := hj
    simpa using (List.getElem?_eq_some_iff.1 hv).1
  simp only [Nat.zero_add, Array.getD_eq_getD_getElem?, Array.getElem?_append_left hj', Array.getElem?_toList]
theorem cw_enterIn {f : FuncId} {fn : Func} {c : Code} {args : Array Value} {R : Ending → World → Prop} (hf : P.funcs[f]? = some fn) (hb : fn.body = some c) (n : Nat) (hn : args.size + (fn.ntmps - args.size) = n)
    (h : CW none m P [] n (bodyPost P fn R) c (argE 0 args.toList) w) : CallsIn Fence.wide m P f args w R := by
  refine callsIn_of_wp hf hb trivial ?_
  refine h _ ?_
  have := fr_args args (fn.ntmps - args.size)
  rw [show (args ++ Array.replicate (fn.ntmps - args.size) undef).size = n from by simp [hn]] at this
  exact this
theorem cw_enter {f : FuncId} {fn : Func} {c : Code} {args : Array Value} {R : Ending → World → Prop} (hf : P.funcs[f]? = some fn) (hb : fn.body = some c) (n : Nat) (hn : args.size + (fn.ntmps - args.size) = n)
    (h : CW none 20 P [] n (bodyPost P fn R) c (argE 0 args.toList) w) : Calls P f args w R := callsIn_wide.1 (cw_enterIn hf hb n hn h)
def resF (g : Nat → Value) (rs : Array ResultVar) : Sem Value := do
  let vs ← rs.mapM fun
    | .tmp t => pure (g t)
    | .cell a t => do loadVar t (← asAddr (g a))
  pure (if h : vs.size = 1 then vs[0] else .tuple vs)
theorem results_resF (fn : Func) (tmps : Array Value) : results fn tmps = resF (fun t => tmps.getD t undef) fn.results := rfl
theorem nw_ret_body {fn : Func} {R : Ending → World → Prop} (v : Value) (hr : ∀ fb, (resF (lkF env fb) fn.results).run P w = .ok v w) (hR : R (.returned v) w) : NW [] n (bodyPost P fn R) .ret env w := fun a ha => by
  refine ⟨ha.df, v, ?_, hR⟩
  rw [results_resF, show (fun t => a.tmps.getD t undef) = lkF env (fun t => a.tmps.getD t undef) from funext ha.get]
  exact hr _
end
section
variable {r : Option Nat} {m : Nat} {P : Program} {ds : List Deferred} {n : Nat} {Q : Exit → Act → World → Prop} {env : Env} {w w' : World} {ops : Array Oper} {l : List Oper} {o : Oper}
theorem cw_region {id : Nat} (h : RW r m P ds n Q l.toArray l env w) : CW r m P ds n Q (.region id l.toArray false) env w := fun a ha => wpIn_region_lit (h a ha)
theorem rw_nil (h : NW ds n Q .normal env w) : RW r m P ds n Q ops [] env w := h
theorem rw_v (d : Nat) (v : Value) (hc : ∀ fb, chk n ops env fb o d = true) (hr : ∀ fb, (execOp (ev env fb) o).run P w = .ok (.value v) w') (h : RW r m P ds n Q ops l ((d, v) :: env) w') : RW r m P ds n Q ops (o :: l) env w := fun a ha => by
  obtain ⟨h1, h2, h3, hnd⟩ := chk_spec (hc (fun t => a.tmps.getD t undef))
  refine wpListIn_step fun K hK => ?_
  rw [ha.want, if_pos h3]
  refine ⟨fun f _ => trivial, ?_⟩
  rw [Oper.semAt_eq _ _ _ hnd, ha.ev, hr, Oper.uponIn_value, h1]
  exact hK _ _ (h _ (fr_put ha h2 v))
theorem rw_p (d : Nat) (v : Value) (hc : ∀ fb, chk n ops env fb o d = true) (hr : ∀ fb, (execOp (ev env fb) o).run P w = .ok (.value v) w) (h : RW r m P ds n Q ops l ((d, v) :: env) w) : RW r m P ds n Q ops (o :: l) env w := rw_v d v hc hr h
theorem rw_s (hc : ∀ fb, chk0 ops env fb o = true) (hr : ∀ fb, (execOp (ev env fb) o).run P w = .ok .skip w') (h : RW r m P ds n Q ops l env w') : RW r m P ds n Q ops (o :: l) env w := fun a ha => by
  obtain ⟨h1, h3, hnd⟩ := chk0_spec (hc (fun t => a.tmps.getD t undef))
  refine wpListIn_step fun K hK => ?_
  rw [ha.want, if_pos h3]
  refine ⟨fun f _ => trivial, ?_⟩
  rw [Oper.semAt_eq _ _ _ hnd, ha.ev, hr, Oper.uponIn_skip, h1]
  exact hK _ _ (h _ ha)
theorem rw_off (d : Nat) (hc : ∀ fb, off n ops env fb o d = true) (h : RW r m P ds n Q ops l ((d, undef) :: env) w) : RW r m P ds n Q ops (o :: l) env w := fun a ha => by
  obtain ⟨h1, h2, h3⟩ := off_spec (hc (fun t => a.tmps.getD t undef))
  refine wpListIn_step fun K hK => ?_
  rw [ha.want, if_neg (by rw [h3]; exact Bool.false_ne_true), h1]
  refine ⟨fun f _ => trivial, ?_⟩
  exact hK _ _ (h _ (fr_put ha h2 _))
theorem rw_call (d : Nat) (f : FuncId) (args : Array Value) (hc : ∀ fb, chk n ops env fb o d = true) (hr : ∀ fb, (execOp (ev env fb) o).run P w = .ok (.enter f args) w) {R : Value → World → Prop}
    (hcall : Calls P f args w fun e w' => ∃ v, e = .returned v ∧ R v w') (h : ∀ v w', R v w' → RW r m P ds n Q ops l ((d, v) :: env) w') : RW r m P ds n Q ops (o :: l) env w := fun a ha => by
  obtain ⟨h1, h2, h3, hnd⟩ := chk_spec (hc (fun t => a.tmps.getD t undef))
  refine wpListIn_step fun K hK => ?_
  rw [ha.want, if_pos h3]
  refine ⟨fun f _ => trivial, ?_⟩
  rw [Oper.semAt_eq _ _ _ hnd, ha.ev, hr, Oper.uponIn_enter]
  refine ⟨fun h => absurd h Bool.false_ne_true, ?_⟩
  refine CallsIn.mono' (callsIn_fz.2 hcall) ?_
  rintro e w' ⟨v, rfl, hR⟩
  rw [h1]
  exact hK _ _ (h v w' hR _ (fr_put ha h2 v))
end
section
variable {r : Option Nat} {m : Nat} {P : Program} {ds : List Deferred} {n : Nat} {Q : Exit → Act → World → Prop} {env : Env} {w w' : World} {ops : Array Oper} {o : Oper} {S : World → Prop} {fuel : Nat} {listed : Array Bool} {rs : List Nat}
theorem cw_draw {id : Nat} (S : World → Prop) (hm : P.follows .mixedOrders = true) (hS : S w.drew) (h : DW P ds n Q ops S ops.size (Array.replicate ops.size false) env w.drew) : CW none m P ds n Q (.region id ops true) env w := fun a ha =>
  wpIn_wide.2 (wp_region_held_drew hm hS (fun _ => h a ha))
def tkOk (ops : Array Oper) (listed : Array Bool) (i : Nat) : Bool := Region.noSelect ops && Region.free .any ops listed i && (Region.ready .any ops listed).contains i
theorem dw_take (i d : Nat) (v : Value) (ho : ops[i]? = some o) (hk : tkOk ops listed i = true) (hQ : ∀ c a w, Q (.panic c) (a.put (some d) v) w → Q (.panic c) a w) (hc : ∀ fb, chk n ops env fb o d = true)
    (hr : ∀ w, S w → ∀ fb, (execOp (ev env fb) o).run P w = .ok (.value v) w) (hS : S w) (h : DW P ds n Q ops S fuel (listed.setIfInBounds i true) ((d, v) :: env) w) : DW P ds n Q ops S (fuel + 1) listed env w := fun a ha => by
  obtain ⟨h1, h2, h3, _⟩ := chk_spec (hc (fun t => a.tmps.getD t undef))
  unfold tkOk at hk
  simp only [Bool.and_eq_true] at hk
  refine wpAnyH_take ho hk.1.1 hk.1.2 hk.2 (v := v) (by rw [h1]; exact hQ) (Or.inl ⟨by rw [ha.want]; exact h3, fun w hw => by rw [ha.ev]; exact hr w hw _⟩) hS ?_
  rw [h1]
  exact h _ (fr_put ha h2 v)
theorem dw_done (hr : Region.ready .any ops listed = []) (h : NW ds n Q .normal env w) : DW P ds n Q ops S fuel listed env w := fun a ha => wpAnyH_done hr (h a ha) fuel
theorem dw_ready (rs : List Nat) (hr : Region.ready .any ops listed = rs) (hne : rs ≠ []) (h : AR P ds n Q ops S fuel listed env w rs) : DW P ds n Q ops S (fuel + 1) listed env w := fun a ha => wpAnyH_ready hr hne (h a ha)
theorem ar_nil : AR P ds n Q ops S fuel listed env w [] := fun a ha => AllReadyH.nil
theorem ar_s (i : Nat) (ho : ops[i]? = some o) (hc : ∀ fb, chk0 ops env fb o = true) (hr : ∀ fb, (execOp (ev env fb) o).run P w = .ok .skip w') (hS : S w')
    (h : DW P ds n Q ops S fuel (listed.setIfInBounds i true) env w') (hs : AR P ds n Q ops S fuel listed env w rs) : AR P ds n Q ops S fuel listed env w (i :: rs) := fun a ha => by
  obtain ⟨h1, h3, _⟩ := chk0_spec (hc (fun t => a.tmps.getD t undef))
  refine AllReadyH.cons ho (fun K hK => ?_) (hs a ha)
  rw [ha.want, if_pos h3]
  unfold Oper.wp
  rw [ha.ev, hr, Oper.upon_skip, h1]
  exact hK _ _ hS (fun _ => h _ ha)
end
end Go.Proofs.Ytmofehloiiopfaa
/- The walk's commonest steps, with what the kernel reckons left to it. -/
namespace Go.Proofs.Ytmofehloiiopfaa
open Go.RowKit
section
variable {r : Option Nat} {m : Nat} {P : Program} {ds : List Deferred} {n : Nat} {Q : Exit → Act → World → Prop} {env : Env} {w : World} {ops : Array Oper} {l : List Oper} {o : Oper} {S : World → Prop} {fuel : Nat} {listed : Array Bool}
theorem rp (d : Nat) (v : Value) (h : RW r m P ds n Q ops l ((d, v) :: env) w) (hc : ∀ fb, chk n ops env fb o d = true := by intro _; kernel_rfl) (hr : ∀ fb, (execOp (ev env fb) o).run P w = .ok (.value v) w := by intro _; kernel_rfl) : RW r m P ds n Q ops (o :: l) env w := rw_p d v hc hr h
theorem rv (d : Nat) (v : Value) (hr : ∀ fb, (execOp (ev env fb) o).run P w = .ok (.value v) w) (h : RW r m P ds n Q ops l ((d, v) :: env) w) (hc : ∀ fb, chk n ops env fb o d = true := by intro _; kernel_rfl) : RW r m P ds n Q ops (o :: l) env w := rw_p d v hc hr h
theorem dt (i d : Nat) (v : Value) (hr : ∀ w, S w → ∀ fb, (execOp (ev env fb) o).run P w = .ok (.value v) w) (hS : S w) (h : DW P ds n Q ops S fuel (listed.setIfInBounds i true) ((d, v) :: env) w) (ho : ops[i]? = some o := by rfl) (hk : tkOk ops listed i = true := by kernel_rfl) (hQ : ∀ c a w, Q (.panic c) (a.put (some d) v) w → Q (.panic c) a w := by exact fun _ _ _ h => h) (hc : ∀ fb, chk n ops env fb o d = true := by intro _; kernel_rfl) : DW P ds n Q ops S (fuel + 1) listed env w := dw_take i d v ho hk hQ hc hr hS h
end
end Go.Proofs.Ytmofehloiiopfaa
/- Operations for the walk by environments: new blocks, stores, loads, numbers. -/
namespace Go.Proofs.Ytmofehloiiopfaa
open Go.RowKit
set_option linter.unusedVariables false
set_option maxRecDepth 100000
/-- A new block. -/
structure New (w w' : World) (g : Nat) (cells : Array Value) (T : TypeId) : Prop where
  hg : g = w.heap.size
  hw : w' = w.alloc (.cells cells T)
section
variable {w w' : World} {g : Nat} {cells : Array Value} {T : TypeId}
theorem New.below (h : New w w' g cells T) : Below w.heap.size w w' := by rw [h.hw]; exact (Below.refl _ _).alloc (Nat.le_refl _) _
theorem New.row (h : New w w' g cells T) : w'.heap[g]? = some (.cells cells T (0, 0)) := by rw [h.hw, h.hg]; exact heap_alloc_new _ _
theorem New.size (h : New w w' g cells T) : w'.heap.size = g + 1 := by rw [h.hw, h.hg]; simp
end
/-- A block is written over. -/
structure Put (w w' : World) (g : Nat) (cells : Array Value) : Prop where
  hw : w' = w.setRow g cells
section
variable {w w' : World} {g : Nat} {cells : Array Value}
theorem Put.other (h : Put w w' g cells) {k : Nat} (hk : k ≠ g) : w'.heap[k]? = w.heap[k]? := by rw [h.hw]; exact setRow_other _ _ _ _ hk
theorem Put.row (h : Put w w' g cells) {old : Array Value} {T : TypeId} {fr : Nat × Nat} (ho : w.heap[g]? = some (.cells old T fr)) : w'.heap[g]? = some (.cells cells T fr) := by rw [h.hw]; exact setRow_heap _ _ _ _ _ _ ho
theorem Put.size (h : Put w w' g cells) : w'.heap.size = w.heap.size := by rw [h.hw]; simp
theorem Put.touch (h : Put w w' g cells) : Touch g w w' := by rw [h.hw]; exact Touch.setRow _ _ _
theorem Put.below (h : Put w w' g cells) {N : Nat} {w0 : World} (hb : Below N w0 w) (hg : N ≤ g) (hs : N ≤ w.heap.size) : Below N w0 w' := h.touch.below hb hg hs
end
/-- A cell is written over. -/
structure Set1 (w w' : World) (g o : Nat) (v : Value) : Prop where
  hw : w' = w.setCell ⟨g, o, none⟩ v
section
variable {w w' : World} {g o : Nat} {v : Value}
theorem Set1.touch (h : Set1 w w' g o v) : Touch g w w' := by rw [h.hw]; exact Touch.setCell _ _ _ _
end
section
variable {r : Option Nat} {m : Nat} {P : Program} {ds : List Deferred} {n : Nat} {Q : Exit → Act → World → Prop} {env : Env} {w : World} {ops : Array Oper} {l : List Oper} {o : Oper} {S : World → Prop} {fuel : Nat} {listed : Array Bool} {rs : List Nat}
theorem rw_new (d : Nat) (cells : Array Value) (T : TypeId) (hc : ∀ fb, chk n ops env fb o d = true) (hr : ∀ fb, (execOp (ev env fb) o).run P w = .ok (.value (.pointer (some ⟨w.heap.size, 0, none⟩))) (w.alloc (.cells cells T)))
    (h : ∀ w' g, New w w' g cells T → RW r m P ds n Q ops l ((d, .pointer (some ⟨g, 0, none⟩)) :: env) w') : RW r m P ds n Q ops (o :: l) env w := rw_v d _ hc hr (h _ _ ⟨rfl, rfl⟩)
theorem rw_put (g : Nat) (cells : Array Value) (hc : ∀ fb, chk0 ops env fb o = true) (hr : ∀ fb, (execOp (ev env fb) o).run P w = .ok .skip (w.setRow g cells)) (h : ∀ w', Put w w' g cells → RW r m P ds n Q ops l env w') : RW r m P ds n Q ops (o :: l) env w := rw_s hc hr (h _ ⟨rfl⟩)
theorem rw_set1 (g k : Nat) (v : Value) (hc : ∀ fb, chk0 ops env fb o = true) (hr : ∀ fb, (execOp (ev env fb) o).run P w = .ok .skip (w.setCell ⟨g, k, none⟩ v)) (h : ∀ w', Set1 w w' g k v → RW r m P ds n Q ops l env w') : RW r m P ds n Q ops (o :: l) env w := rw_s hc hr (h _ ⟨rfl⟩)
theorem ar_put (i g : Nat) (cells : Array Value) (ho : ops[i]? = some o) (hc : ∀ fb, chk0 ops env fb o = true) (hr : ∀ fb, (execOp (ev env fb) o).run P w = .ok .skip (w.setRow g cells)) (hS : ∀ w', Put w w' g cells → S w')
    (h : ∀ w', Put w w' g cells → DW P ds n Q ops S fuel (listed.setIfInBounds i true) env w') (hs : AR P ds n Q ops S fuel listed env w rs) : AR P ds n Q ops S fuel listed env w (i :: rs) :=
  ar_s i ho hc hr (hS _ ⟨rfl⟩) (h _ ⟨rfl⟩) hs
end
section
variable {P : Program} {ρ : Operand → Value} {w : World} {o : Oper}
/-- A whole row out of its block. -/
theorem ol_row (T : TypeId) (x : Operand) (g : Nat) (cs : Array Value) (t : TypeId) (fr : Nat × Nat) (d : TypeDesc) (ho : o.op = .load T x) (hx : ρ x = .pointer (some ⟨g, 0, none⟩)) (hg : w.heap[g]? = some (.cells cs t fr)) (hu : P.underlying T = some d) (hd : (match d with | .struct _ | .array _ _ => true | _ => false) = true) (hi : (P.info? T).map (·.size) = some cs.size) :
    (execOp ρ o).run P w = .ok (.value (.agg cs)) w := by
  unfold execOp
  simp only [ho, hx, Instr.loadAt, Instr.sureAddr, Sem.run_bind, Sem.run_pure, Result.andThen_ok, run_loadVar_row w g t T cs fr d hg hu hd hi]
/-- A whole row out of the middle of a block. -/
theorem ol_mid (T : TypeId) (x : Operand) (b off : Nat) (cs : List Value) (d : TypeDesc) (ho : o.op = .load T x) (hx : ρ x = .pointer (some ⟨b, off, none⟩)) (hc : w.rangeAt b off cs) (hu : P.underlying T = some d) (hd : d.isRow = true) (hi : (P.info? T).map (·.size) = some cs.length) :
    (execOp ρ o).run P w = .ok (.value (.agg cs.toArray)) w := by
  unfold execOp
  simp only [ho, hx, Instr.loadAt, Instr.sureAddr, Sem.run_bind, Sem.run_pure, Result.andThen_ok, run_loadVar_mid w b off T cs d hc hu hd hi]
/-- One cell. -/
theorem ol_cell (T : TypeId) (x : Operand) (p : Addr) (v : Value) (d : TypeDesc) (ho : o.op = .load T x) (hx : ρ x = .pointer (some p)) (hc : w.cell? p = some v) (hu : P.underlying T = some d) (hd : (match d with | .struct _ | .array _ _ => true | _ => false) = false) :
    (execOp ρ o).run P w = .ok (.value v) w := by
  have ha : (isAgg T).run P w = .ok false w := by
    cases d <;> simp_all [isAgg, run_underlying hu]
  unfold execOp
  simp only [ho, hx, Instr.loadAt, Instr.sureAddr, Sem.run_bind, Sem.run_pure, Result.andThen_ok, loadVar, ha, Bool.false_eq_true, if_false]
  simp [hc]
theorem ol_store (T : TypeId) (x y : Operand) (g : Nat) (cells old : Array Value) (t : TypeId) (ho : o.op = .store T x y) (hx : ρ x = .pointer (some ⟨g, 0, none⟩)) (hy : ρ y = .agg cells) (hg : w.heap[g]? = some (.cells old t (0, 0))) (hi : (P.info? T).map (·.size) = some cells.size) (hold : old.size = cells.size) (h1 : cells.all (·.oneCell') = true) :
    (execOp ρ o).run P w = .ok .skip (w.setRow g cells) := by
  unfold execOp
  rw [ho]
  simp only [hx, hy, Instr.storeAt, Instr.sureAddr, Sem.run_bind, Sem.run_pure, Result.andThen_ok, run_storeVar_row w g t T old cells hg hi hold h1]
/-- An element's place. -/
theorem ol_index (T : TypeId) (x y : Operand) (g off j mm c sz : Nat) (E : TypeId) (ho : o.op = .indexAddr T x y) (hx : ρ x = .slice (some ⟨g, off, none⟩) mm c) (hy : ρ y = .int .i64 j) (hj : j < mm) (hu : P.underlying T = some (.slice E)) (hi : (P.info? E).map (·.size) = some sz) :
    (execOp ρ o).run P w = .ok (.value (.pointer (some ⟨g, off + j * sz, none⟩))) w := by
  have hs : (sizeOf E).run P w = .ok sz w := by
    cases hq : P.info? E with
    | none => simp [hq] at hi
    | some z => simp [hq] at hi; simp [sizeOf, typeInfo, hq, hi]
  unfold execOp
  rw [ho]
  simp only [hx, hy]
  have he : (if j * sz = 0 then (⟨g, off, none⟩ : Addr) else ⟨g, off + j * sz, none⟩) = ⟨g, off + j * sz, none⟩ := by split <;> simp_all
  simp [Instr.indexAt, asIntOf, run_underlying hu, hs, hj, Result.andThen, Addr.add, he]
/-- Texts compared. -/
theorem ol_eqs (T : TypeId) (x y : Operand) (r : TypeId) (p q : ByteArray) {b : Bool} (ho : o.op = .binOp .eql T x y r) (hx : ρ x = .string p) (hy : ρ y = .string q) (hb : (p.toList == q.toList) = b) : (execOp ρ o).run P w = .ok (.value (.bool b)) w := by
  subst hb
  unfold execOp
  rw [ho]
  simp only [hx, hy]
  go_simp
theorem ol_nes (T : TypeId) (x y : Operand) (r : TypeId) (p q : ByteArray) {b : Bool} (ho : o.op = .binOp .neq T x y r) (hx : ρ x = .string p) (hy : ρ y = .string q) (hb : (!(p.toList == q.toList)) = b) : (execOp ρ o).run P w = .ok (.value (.bool b)) w := by
  subst hb
  unfold execOp
  rw [ho]
  simp only [hx, hy]
  go_simp
theorem ol_conv {v v' : Value} {w' : World} (h : (execOp ρ o).run P w = .ok (.value v) w') (e : v = v') : (execOp ρ o).run P w = .ok (.value v') w' := by rw [← e]; exact h
end
theorem wrap64 {x : Int} (h1 : -9223372036854775808 ≤ x) (h2 : x ≤ 9223372036854775807) : IntKind.i64.wrap x = x := by unfold IntKind.wrap; simp [IntKind.bits, IntKind.signed]; omega
end Go.Proofs.Ytmofehloiiopfaa

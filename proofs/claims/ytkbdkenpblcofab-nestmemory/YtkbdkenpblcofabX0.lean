/- Steps through a region whose order is drawn, while something holds of the world: what yields wherever it holds, a call by its contract. -/
import Derived.Test.YtkbdkenpblcofabA1
import Derived.Test.YtkbdkenpblcofabS1
import Derived.Deep.RegionHeld3
namespace Go.Proofs.Ytkbdkenpblcofab
open Go.RowKit
set_option linter.unusedVariables false
section
variable {P : Program} {md : Region.Mode} {ops : Array Oper} {Q : Exit → Act → World → Prop} {S : World → Prop} {fuel : Nat} {listed : Array Bool} {a : Act} {w : World}
theorem rd_take (i d : Nat) (v : Value) {o : Oper} (ho : ops[i]? = some o) (hd : o.dst = some d) (hs : Region.noSelect ops = true) (hf : Region.free md ops listed i = true) (hr : (Region.ready md ops listed).contains i = true)
    (hQ : ∀ c a w, Q (.panic c) (a.put o.dst v) w → Q (.panic c) a w) (hg : Region.wanted o (yielded ops a.tmps) = true) (hy : ∀ w, S w → (execOp a.eval o).run P w = .ok (.value v) w) (hS : S w)
    (h : wpAnyH P md ops Q S fuel (listed.setIfInBounds i true) (a.put (some d) v) w) : wpAnyH P md ops Q S (fuel + 1) listed a w :=
  wpAnyH_take ho hs hf hr hQ (Or.inl ⟨hg, hy⟩) hS (hd ▸ h)
theorem rd_skip (i d : Nat) {o : Oper} (ho : ops[i]? = some o) (hd : o.dst = some d) (hs : Region.noSelect ops = true) (hf : Region.free md ops listed i = true) (hr : (Region.ready md ops listed).contains i = true)
    (hQ : ∀ c a w, Q (.panic c) (a.put o.dst undef) w → Q (.panic c) a w) (hg : Region.wanted o (yielded ops a.tmps) = false) (hS : S w)
    (h : wpAnyH P md ops Q S fuel (listed.setIfInBounds i true) (a.put (some d) undef) w) : wpAnyH P md ops Q S (fuel + 1) listed a w :=
  wpAnyH_take ho hs hf hr hQ (Or.inr ⟨hg, rfl⟩) hS (hd ▸ h)
theorem rd_run (i d : Nat) (v : Value) {rs : List Nat} {w' : World} {o : Oper} (ho : ops[i]? = some o) (hd : o.dst = some d) (hg : Region.wanted o (yielded ops a.tmps) = true) (hrun : (execOp a.eval o).run P w = .ok (.value v) w') (hS : S w')
    (h : wpAnyH P md ops Q S fuel (listed.setIfInBounds i true) (a.put (some d) v) w') (hs : AllReadyH P md ops Q S fuel listed a w rs) : AllReadyH P md ops Q S fuel listed a w (i :: rs) :=
  AllReadyH.cons ho (fun K hK => by
    rw [if_pos hg]
    unfold Oper.wp
    rw [hrun, Oper.upon_value]
    exact hK _ _ hS (fun _ => hd ▸ h)) hs
theorem rd_call (i d : Nat) {rs : List Nat} {o : Oper} (ho : ops[i]? = some o) (hd : o.dst = some d) (hg : Region.wanted o (yielded ops a.tmps) = true) (f : FuncId) (args : Array Value) (hrun : (execOp a.eval o).run P w = .ok (.enter f args) w)
    {R : Value → World → Prop} (hc : Calls P f args w fun e w' => ∃ v, e = .returned v ∧ R v w') (hSS : ∀ v w', R v w' → S w') (h : ∀ v w', R v w' → wpAnyH P md ops Q S fuel (listed.setIfInBounds i true) (a.put (some d) v) w')
    (hs : AllReadyH P md ops Q S fuel listed a w rs) : AllReadyH P md ops Q S fuel listed a w (i :: rs) :=
  AllReadyH.cons ho (fun K hK => by
    rw [if_pos hg]
    unfold Oper.wp
    rw [hrun, Oper.upon_enter]
    refine hc.mono ?_
    rintro e w' ⟨v, rfl, hR⟩
    exact hK _ _ (hSS v w' hR) (fun _ => hd ▸ h v w' hR)) hs
theorem rd_conv {s : ByteArray} {t u : TypeId} {x : Operand} {v : Value} {o : Oper} (ho : o.op = .convert t u x) (hx : a.eval x = v) (hc : (convert t u v).run P w = .ok (.string s) w) : (execOp a.eval o).run P w = .ok (.value (.string s)) w := by
  simp [execOp, ho, hx, hc]
end
section
variable {a : Act} {w : World}
theorem rd_loadB {x : Operand} {p : Addr} {v : Value} {o : Oper} (ho : o.op = .load 23 x) (hx : a.eval x = .pointer (some p)) (hc : w.cell? p = some v) : (execOp a.eval o).run Try.prog w = .ok (.value v) w := by
  unfold execOp
  rw [ho]
  simp only [hx]
  go_simp
theorem rd_loadL {x : Operand} {p : Addr} {v : Value} {o : Oper} (ho : o.op = .load 22 x) (hx : a.eval x = .pointer (some p)) (hc : w.cell? p = some v) : (execOp a.eval o).run Try.prog w = .ok (.value v) w := by
  unfold execOp
  rw [ho]
  simp only [hx]
  go_simp
theorem rd_loadb {x : Operand} {p : Addr} {v : Value} {o : Oper} (ho : o.op = .load 4 x) (hx : a.eval x = .pointer (some p)) (hc : w.cell? p = some v) : (execOp a.eval o).run Try.prog w = .ok (.value v) w := by
  unfold execOp
  rw [ho]
  simp only [hx]
  go_simp
theorem rd_loadI {x : Operand} {g off : Nat} {v0 v1 v2 : Value} {o : Oper} (ho : o.op = .load 25 x) (hx : a.eval x = .pointer (some ⟨g, off, none⟩)) (h0 : w.cell? ⟨g, off, none⟩ = some v0) (h1 : w.cell? ⟨g, off + 1, none⟩ = some v1) (h2 : w.cell? ⟨g, off + 2, none⟩ = some v2) : (execOp a.eval o).run Try.prog w = .ok (.value (.agg #[v0, v1, v2])) w := by
  unfold execOp
  rw [ho]
  simp only [hx]
  go_simp
theorem rd_index {x y : Operand} {g off j m c : Nat} {o : Oper} (ho : o.op = .indexAddr 22 x y) (hx : a.eval x = .slice (some ⟨g, off, none⟩) m c) (hy : a.eval y = .int .i64 j) (hj : j < m) : (execOp a.eval o).run Try.prog w = .ok (.value (.pointer (some ⟨g, off + j * 3, none⟩))) w := by
  have hji : (j : Int) < m := by omega
  unfold execOp
  rw [ho]
  simp only [hx, hy]
  go_simp
theorem rd_eqE {p q : Int} {r : TypeId} {x y : Operand} {b : Bool} {o : Oper} (ho : o.op = .binOp .eql 26 x y r) (hx : a.eval x = .int .i64 p) (hy : a.eval y = .int .i64 q) (hb : (p == q) = b) : (execOp a.eval o).run Try.prog w = .ok (.value (.bool b)) w := by
  subst hb
  unfold execOp
  rw [ho]
  simp only [hx, hy]
  go_simp
theorem rd_eqi {p q : Int} {r : TypeId} {x y : Operand} {b : Bool} {o : Oper} (ho : o.op = .binOp .eql 3 x y r) (hx : a.eval x = .int .i64 p) (hy : a.eval y = .int .i64 q) (hb : (p == q) = b) : (execOp a.eval o).run Try.prog w = .ok (.value (.bool b)) w := by
  subst hb
  unfold execOp
  rw [ho]
  simp only [hx, hy]
  go_simp
theorem rd_eqb {p q : Bool} {r : TypeId} {x y : Operand} {b : Bool} {o : Oper} (ho : o.op = .binOp .eql 4 x y r) (hx : a.eval x = .bool p) (hy : a.eval y = .bool q) (hb : (p == q) = b) : (execOp a.eval o).run Try.prog w = .ok (.value (.bool b)) w := by
  subst hb
  unfold execOp
  rw [ho]
  simp only [hx, hy]
  go_simp
end
theorem below_go {w0 w w' : World} (h : Below w0.heap.size w0 w) (hb : Below w.heap.size w w') : Below w0.heap.size w0 w' := h.trans (hb.mono h.size)
theorem below_cell {w w' : World} (hb : Below w.heap.size w w') {g o : Nat} {v : Value} (h : w.cell? ⟨g, o, none⟩ = some v) : w'.cell? ⟨g, o, none⟩ = some v := (hb.cell (p := ⟨g, o, none⟩) (block_lt_of_cell h)).trans h
theorem end_ret {N : Nat} {w0 : World} {a : Act} {w' : World} {fn : Func} (t : Tmp) (hr : fn.results = #[.tmp t]) (h1 : a.defers = []) (h2 : a.tmps.getD t undef = .bool true) (hb : Below N w0 w') :
    Code.wp Try.prog .ret (bodyPost Try.prog fn fun e w' => e = .returned (.bool true) ∧ Below N w0 w') a w' :=
  wp_ret (bodyPost_ret ((results_tmp (t := t) hr _ _ _).trans (by rw [h2])) h1 ⟨rfl, hb⟩)
theorem cut_at {K : Act → World → Prop} {Q : Exit → Act → World → Prop} {a F : Act} {w : World} (h : a = F) (hk : K F w) : Exit.then K Q .normal a w := by
  subst h
  exact hk
theorem Ag.drew {w : World} {a : Option Addr} {len cap : Nat} {bs : List Int} (h : Ag w a len cap bs) : Ag w.drew a len cap bs := ⟨h.i.drew, h.nil, h.l, h.b⟩
theorem ag_nil (w : World) : Ag w none 0 0 [] := ⟨.inl ⟨rfl, rfl⟩, fun _ => ⟨rfl, rfl⟩, rfl, fun x hx => by cases hx⟩
end Go.Proofs.Ytkbdkenpblcofab

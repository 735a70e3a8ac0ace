/- Steps through a region whose order is drawn, while something holds of the world: what yields wherever it holds, a call by its contract. -/
import Derived.Test.YtgbkgfmmlmojhaaV1
import Derived.Deep.RegionHeld3
namespace Go.Proofs.Ytgbkgfmmlmojhaa
open Go.RowKit
set_option linter.unusedVariables false
section
variable {P : Program} {md : Region.Mode} {ops : Array Oper} {Q : Exit → Act → World → Prop} {S : World → Prop} {fuel : Nat} {listed : Array Bool} {a : Act} {w : World}
theorem rd_take (i d : Nat) (v : Value) {o : Oper} (ho : ops[i]? = some o) (hd : o.dst = some d) (hs : Region.noSelect ops = true) (hf : Region.free md ops listed i = true) (hr : (Region.ready md ops listed).contains i = true)
    (hQ : ∀ c a w, Q (.panic c) (a.put o.dst v) w → Q (.panic c) a w) (hg : Region.wanted o (yielded ops a.tmps) = true) (hy : ∀ w, S w → (execOp a.eval o).run P w = .ok (.value v) w) (hS : S w)
    (h : wpAnyH P md ops Q S fuel (listed.setIfInBounds i true) (a.put (some d) v) w) : wpAnyH P md ops Q S (fuel + 1) listed a w :=
  wpAnyH_take ho hs hf hr hQ (Or.inl ⟨hg, hy⟩) hS (hd ▸ h)
theorem rd_skip (i d : Nat) {o : Oper} (ho : ops[i]? = some o) (hd : o.dst = some d) (hs : Region.noSelect ops = true) (hf : Region.free md ops listed i = true) (hr : (Region.ready md ops listed).contains i = true)
    (hQ : ∀ c a w, Q (.panic c) (a.put o.dst undef) w → Q (.panic c) a w) (hg : Region.wanted o (yielded ops a.tmps) = false) (hS : S w)
    (h : wpAnyH P md ops Q S fuel (listed.setIfInBounds i true) (a.put (some d) undef) w) : wpAnyH P md ops Q S (fuel + 1) listed a w :=
  wpAnyH_take ho hs hf hr hQ (Or.inr ⟨hg, rfl⟩) hS (hd ▸ h)
theorem rd_run (i d : Nat) (v : Value) {rs : List Nat} {w' : World} {o : Oper} (ho : ops[i]? = some o) (hd : o.dst = some d) (hg : Region.wanted o (yielded ops a.tmps) = true) (hrun : (execOp a.eval o).run P w = .ok (.value v) w') (hS : S w')
    (h : wpAnyH P md ops Q S fuel (listed.setIfInBounds i true) (a.put (some d) v) w') (hs : AllReadyH P md ops Q S fuel listed a w rs) : AllReadyH P md ops Q S fuel listed a w (i :: rs) :=
  AllReadyH.cons ho (fun K hK => by
    rw [if_pos hg]
    unfold Oper.wp
    rw [hrun, Oper.upon_value]
    exact hK _ _ hS (fun _ => hd ▸ h)) hs
theorem rd_call (i d : Nat) {rs : List Nat} {o : Oper} (ho : ops[i]? = some o) (hd : o.dst = some d) (hg : Region.wanted o (yielded ops a.tmps) = true) (f : FuncId) (args : Array Value) (hrun : (execOp a.eval o).run P w = .ok (.enter f args) w)
    {R : Value → World → Prop} (hc : Calls P f args w fun e w' => ∃ v, e = .returned v ∧ R v w') (hSS : ∀ v w', R v w' → S w') (h : ∀ v w', R v w' → wpAnyH P md ops Q S fuel (listed.setIfInBounds i true) (a.put (some d) v) w')
    (hs : AllReadyH P md ops Q S fuel listed a w rs) : AllReadyH P md ops Q S fuel listed a w (i :: rs) :=
  AllReadyH.cons ho (fun K hK => by
    rw [if_pos hg]
    unfold Oper.wp
    rw [hrun, Oper.upon_enter]
    refine hc.mono ?_
    rintro e w' ⟨v, rfl, hR⟩
    exact hK _ _ (hSS v w' hR) (fun _ => hd ▸ h v w' hR)) hs
theorem rd_conv {s : ByteArray} {t u : TypeId} {x : Operand} {v : Value} {o : Oper} (ho : o.op = .convert t u x) (hx : a.eval x = v) (hc : (convert t u v).run P w = .ok (.string s) w) : (execOp a.eval o).run P w = .ok (.value (.string s)) w := by
  simp [execOp, ho, hx, hc]
end
section
variable {a : Act} {w : World}
theorem rd_load8 {x : Operand} {p : Addr} {v : Value} {o : Oper} (ho : o.op = .load 5 x) (hx : a.eval x = .pointer (some p)) (hc : w.cell? p = some v) : (execOp a.eval o).run Try.prog w = .ok (.value v) w := by
  unfold execOp
  rw [ho]
  simp only [hx]
  go_simp
theorem rd_index8 {x y : Operand} {g off j m c : Nat} {o : Oper} (ho : o.op = .indexAddr 22 x y) (hx : a.eval x = .slice (some ⟨g, off, none⟩) m c) (hy : a.eval y = .int .i64 j) (hj : j < m) : (execOp a.eval o).run Try.prog w = .ok (.value (.pointer (some ⟨g, off + j, none⟩))) w := by
  have hji : (j : Int) < m := by omega
  unfold execOp
  rw [ho]
  simp only [hx, hy]
  go_simp
theorem rd_front {x y : Operand} {ad : Option Addr} {k m c : Nat} {o : Oper} (ho : o.op = .slice 22 x none (some y) none) (hx : a.eval x = .slice ad m c) (hy : a.eval y = .int .i64 k) (hk : k ≤ c) (hc : c ≤ 140737488355328) (hn : ad = none → c = 0) : (execOp a.eval o).run Try.prog w = .ok (.value (.slice ad k c)) w := by
  have hki : (k : Int) ≤ c := by omega
  have hk0 : (0 : Int) ≤ k := by omega
  unfold execOp
  rw [ho]
  simp only [hx, hy, Option.map_some, Option.map_none]
  cases ad with
  | none =>
    have := hn rfl
    subst this
    have : k = 0 := by omega
    subst this
    go_simp
  | some ad => go_simp
theorem rd_lss {p q : Int} {r : TypeId} {x y : Operand} {b : Bool} {o : Oper} (ho : o.op = .binOp .lss 3 x y r) (hx : a.eval x = .int .i64 p) (hy : a.eval y = .int .i64 q) (hb : decide (p < q) = b) : (execOp a.eval o).run Try.prog w = .ok (.value (.bool b)) w := by
  subst hb
  unfold execOp
  rw [ho]
  simp only [hx, hy]
  go_simp
theorem rd_gtr {p q : Int} {r : TypeId} {x y : Operand} {b : Bool} {o : Oper} (ho : o.op = .binOp .gtr 3 x y r) (hx : a.eval x = .int .i64 p) (hy : a.eval y = .int .i64 q) (hb : decide (p > q) = b) : (execOp a.eval o).run Try.prog w = .ok (.value (.bool b)) w := by
  subst hb
  unfold execOp
  rw [ho]
  simp only [hx, hy]
  go_simp
theorem rd_eq8 {p q : Int} {r : TypeId} {x y : Operand} {b : Bool} {o : Oper} (ho : o.op = .binOp .eql 5 x y r) (hx : a.eval x = .int .u8 p) (hy : a.eval y = .int .u8 q) (hb : (p == q) = b) : (execOp a.eval o).run Try.prog w = .ok (.value (.bool b)) w := by
  subst hb
  unfold execOp
  rw [ho]
  simp only [hx, hy]
  go_simp
end
theorem below_cell {w w' : World} (hb : Below w.heap.size w w') {g o : Nat} {v : Value} (h : w.cell? ⟨g, o, none⟩ = some v) : w'.cell? ⟨g, o, none⟩ = some v := (hb.cell (p := ⟨g, o, none⟩) (block_lt_of_cell h)).trans h
theorem cut_at {K : Act → World → Prop} {Q : Exit → Act → World → Prop} {a F : Act} {w : World} (h : a = F) (hk : K F w) : Exit.then K Q .normal a w := by
  subst h
  exact hk
theorem ag_take {w : World} {a : Option Addr} {n c : Nat} {b : List Int} (h : Ag w a n c b) {k : Nat} (hk : k ≤ n) : Ag w a k c (b.take k) := by
  have hl := h.l
  refine ⟨?_, ?_, by rw [List.length_take]; omega, fun x hx => h.b x (List.mem_of_mem_take hx)⟩
  · by_cases h0 : k = 0
    · subst h0
      exact .inl ⟨rfl, by simp⟩
    · rcases h.i with ⟨h1, _⟩ | ⟨g, off, h1, h2, h3, h4, h5, h6⟩
      · omega
      · refine .inr ⟨g, off, h1, by rw [List.length_take]; omega, by omega, by omega, h5, fun j hj => ?_⟩
        rw [List.length_take] at hj
        rw [h6 j (by omega), List.getD, List.getD, List.getElem?_take_of_lt (by omega)]
  · intro ha
    have := h.nil ha
    omega
end Go.Proofs.Ytgbkgfmmlmojhaa

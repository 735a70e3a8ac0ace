/- Steps through a region whose order is drawn: what yields in whatever world, what runs in the world at hand, a call by its contract. -/
import Derived.Test.YticbfhfmigdhiaaV1
import Derived.Test.YticbfhfmigdhiaaB4
import Derived.Test.YticbfhfmigdhiaaT3
namespace Go.Proofs.Yticbfhfmigdhiaa
open Go.RowKit
set_option linter.unusedVariables false
section
variable {P : Program} {md : Region.Mode} {ops : Array Oper} {Q : Exit → Act → World → Prop} {fuel : Nat} {listed : Array Bool} {a : Act} {w : World}
theorem rd_take (i d : Nat) (v : Value) {o : Oper} (ho : ops[i]? = some o) (hd : o.dst = some d) (hs : Region.noSelect ops = true) (hf : Region.free md ops listed i = true) (hr : (Region.ready md ops listed).contains i = true)
    (hQ : ∀ c a w, Q (.panic c) (a.put o.dst v) w → Q (.panic c) a w) (hg : Region.wanted o (yielded ops a.tmps) = true) (hy : ∀ w, (execOp a.eval o).run P w = .ok (.value v) w)
    (h : wpAny P md ops Q fuel (listed.setIfInBounds i true) (a.put (some d) v) w) : wpAny P md ops Q (fuel + 1) listed a w :=
  wpAny_take ho hs hf hr hQ (Or.inl ⟨hg, hy⟩) (hd ▸ h)
theorem rd_skip (i d : Nat) {o : Oper} (ho : ops[i]? = some o) (hd : o.dst = some d) (hs : Region.noSelect ops = true) (hf : Region.free md ops listed i = true) (hr : (Region.ready md ops listed).contains i = true)
    (hQ : ∀ c a w, Q (.panic c) (a.put o.dst undef) w → Q (.panic c) a w) (hg : Region.wanted o (yielded ops a.tmps) = false)
    (h : wpAny P md ops Q fuel (listed.setIfInBounds i true) (a.put (some d) undef) w) : wpAny P md ops Q (fuel + 1) listed a w :=
  wpAny_take ho hs hf hr hQ (Or.inr ⟨hg, rfl⟩) (hd ▸ h)
theorem rd_run (i d : Nat) (v : Value) {rs : List Nat} {w' : World} {o : Oper} (ho : ops[i]? = some o) (hd : o.dst = some d) (hg : Region.wanted o (yielded ops a.tmps) = true) (hrun : (execOp a.eval o).run P w = .ok (.value v) w')
    (h : wpAny P md ops Q fuel (listed.setIfInBounds i true) (a.put (some d) v) w') (hs : AllReady P md ops Q fuel listed a w rs) : AllReady P md ops Q fuel listed a w (i :: rs) :=
  AllReady.cons ho (fun K hK => by
    rw [if_pos hg]
    unfold Oper.wp
    rw [hrun, Oper.upon_value]
    exact hK _ _ (hd ▸ h)) hs
theorem rd_call (i d : Nat) {rs : List Nat} {o : Oper} (ho : ops[i]? = some o) (hd : o.dst = some d) (hg : Region.wanted o (yielded ops a.tmps) = true) (f : FuncId) (args : Array Value) (hrun : (execOp a.eval o).run P w = .ok (.enter f args) w)
    {R : Value → World → Prop} (hc : Calls P f args w fun e w' => ∃ v, e = .returned v ∧ R v w') (h : ∀ v w', R v w' → wpAny P md ops Q fuel (listed.setIfInBounds i true) (a.put (some d) v) w')
    (hs : AllReady P md ops Q fuel listed a w rs) : AllReady P md ops Q fuel listed a w (i :: rs) :=
  AllReady.cons ho (fun K hK => by
    rw [if_pos hg]
    unfold Oper.wp
    rw [hrun, Oper.upon_enter]
    refine hc.mono ?_
    rintro e w' ⟨v, rfl, hR⟩
    exact hK _ _ (hd ▸ h v w' hR)) hs
theorem rd_conv {s : ByteArray} {t u : TypeId} {x : Operand} {v : Value} {o : Oper} (ho : o.op = .convert t u x) (hx : a.eval x = v) (hc : (convert t u v).run P w = .ok (.string s) w) : (execOp a.eval o).run P w = .ok (.value (.string s)) w := by
  simp [execOp, ho, hx, hc]
end
theorem rd_eqs {a : Act} {w : World} {s1 s2 : ByteArray} {r : TypeId} {x y : Operand} {b : Bool} {o : Oper} (ho : o.op = .binOp .eql 9 x y r) (hx : a.eval x = .string s1) (hy : a.eval y = .string s2) (hb : (s1.toList == s2.toList) = b) : (execOp a.eval o).run Try.prog w = .ok (.value (.bool b)) w := by
  subst hb
  unfold execOp
  rw [ho]
  simp only [hx, hy]
  go_simp
theorem rd_eqi {a : Act} {w : World} {p q : Int} {r : TypeId} {x y : Operand} {b : Bool} {o : Oper} (ho : o.op = .binOp .eql 22 x y r) (hx : a.eval x = .int .u64 p) (hy : a.eval y = .int .u64 q) (hb : (p == q) = b) : (execOp a.eval o).run Try.prog w = .ok (.value (.bool b)) w := by
  subst hb
  unfold execOp
  rw [ho]
  simp only [hx, hy]
  go_simp
theorem rd_eqb {a : Act} {w : World} {p q : Bool} {r : TypeId} {x y : Operand} {b : Bool} {o : Oper} (ho : o.op = .binOp .eql 4 x y r) (hx : a.eval x = .bool p) (hy : a.eval y = .bool q) (hb : (p == q) = b) : (execOp a.eval o).run Try.prog w = .ok (.value (.bool b)) w := by
  subst hb
  unfold execOp
  rw [ho]
  simp only [hx, hy]
  go_simp
theorem rd_lss {a : Act} {w : World} {s1 s2 : ByteArray} {r : TypeId} {x y : Operand} {b : Bool} {o : Oper} (ho : o.op = .binOp .lss 9 x y r) (hx : a.eval x = .string s1) (hy : a.eval y = .string s2) (hb : Op.bytesLess s1.toList s2.toList = b) : (execOp a.eval o).run Try.prog w = .ok (.value (.bool b)) w := by
  subst hb
  unfold execOp
  rw [ho]
  simp only [hx, hy]
  go_simp
theorem rd_lsu {a : Act} {w : World} {p q : Int} {r : TypeId} {x y : Operand} {b : Bool} {o : Oper} (ho : o.op = .binOp .lss 22 x y r) (hx : a.eval x = .int .u64 p) (hy : a.eval y = .int .u64 q) (hb : decide (p < q) = b) : (execOp a.eval o).run Try.prog w = .ok (.value (.bool b)) w := by
  subst hb
  unfold execOp
  rw [ho]
  simp only [hx, hy]
  go_simp
theorem rd_gtu {a : Act} {w : World} {p q : Int} {r : TypeId} {x y : Operand} {b : Bool} {o : Oper} (ho : o.op = .binOp .gtr 22 x y r) (hx : a.eval x = .int .u64 p) (hy : a.eval y = .int .u64 q) (hb : decide (p > q) = b) : (execOp a.eval o).run Try.prog w = .ok (.value (.bool b)) w := by
  subst hb
  unfold execOp
  rw [ho]
  simp only [hx, hy]
  go_simp
theorem rd_lei {a : Act} {w : World} {p q : Int} {r : TypeId} {x y : Operand} {b : Bool} {o : Oper} (ho : o.op = .binOp .leq 3 x y r) (hx : a.eval x = .int .i64 p) (hy : a.eval y = .int .i64 q) (hb : decide (p ≤ q) = b) : (execOp a.eval o).run Try.prog w = .ok (.value (.bool b)) w := by
  subst hb
  unfold execOp
  rw [ho]
  simp only [hx, hy]
  go_simp
theorem below_go {w0 w w' : World} (h : Below w0.heap.size w0 w) (hb : Below w.heap.size w w') : Below w0.heap.size w0 w' := h.trans (hb.mono h.size)
theorem end_ret {N : Nat} {w0 : World} {a : Act} {w' : World} {fn : Func} (t : Tmp) (hr : fn.results = #[.tmp t]) (h1 : a.defers = []) (h2 : a.tmps.getD t undef = .bool true) (hb : Below N w0 w') :
    Code.wp Try.prog .ret (bodyPost Try.prog fn fun e w' => e = .returned (.bool true) ∧ Below N w0 w') a w' :=
  wp_ret (bodyPost_ret ((results_tmp (t := t) hr _ _ _).trans (by rw [h2])) h1 ⟨rfl, hb⟩)
theorem Ag.drew {w : World} {a : Option Addr} {len cap : Nat} {bs : List Int} (h : Ag w a len cap bs) : Ag w.drew a len cap bs := ⟨h.i.drew, h.nil, h.l, h.b⟩
theorem alive_R (w : World) : Calls Try.prog 19 #[] w fun e w' => ∃ v, e = .returned v ∧ (v = .bool true ∧ Below w.heap.size w w') :=
  (alive_any w).mono fun e w' h => ⟨_, h.1, rfl, h.2⟩
theorem key_R (x : Int) (hx : 0 ≤ x ∧ x < 18446744073709551616) (w : World) :
    Calls Try.prog 22 #[.int .u64 x] w fun e w' => ∃ v, e = .returned v ∧ ∃ g, (v = .slice (some ⟨g, 0, none⟩) 8 8 ∧ Ag w' (some ⟨g, 0, none⟩) 8 8 (bek 8 x.toNat) ∧ Below w.heap.size w w') :=
  (key_any x hx.1 hx.2 w).mono fun e w' h => ⟨_, h.1, _, rfl, row_ag h.2.1 (bek_len _ _) (bek_bd _ _) (by omega), h.2.2⟩
theorem rkey_R (x : Int) (hx : 0 ≤ x ∧ x < 18446744073709551616) (w : World) :
    Calls Try.prog 23 #[.int .u64 x] w fun e w' => ∃ v, e = .returned v ∧ ∃ a c, (v = .slice a 8 c ∧ Ag w' a 8 c (bek 8 x.toNat) ∧ Below w.heap.size w w') :=
  (rkey_any x hx.1 hx.2 w).mono fun e w' ⟨⟨a, c, h1, h2⟩, h3⟩ => ⟨_, h1, a, c, rfl, h2, h3⟩
theorem bytes_R (x : Int) (hx : 0 ≤ x ∧ x < 18446744073709551616) (w : World) :
    Calls Try.prog 17 #[.int .u64 x] w fun e w' => ∃ v, e = .returned v ∧ ∃ g, (v = .slice (some ⟨g, 0, none⟩) (nb x.toNat) (nb x.toNat) ∧ Ag w' (some ⟨g, 0, none⟩) (nb x.toNat) (nb x.toNat) (be x.toNat) ∧ Below w.heap.size w w') :=
  (bytes_any x hx.1 hx.2 w).mono fun e w' h => ⟨_, h.1, _, rfl, row_ag h.2.1 (be_len _) (be_bd _) (by have := nb8 (n := x.toNat) (by omega); omega), h.2.2⟩
theorem rbytes_R (x : Int) (hx : 0 ≤ x ∧ x < 18446744073709551616) (w : World) :
    Calls Try.prog 18 #[.int .u64 x] w fun e w' => ∃ v, e = .returned v ∧ ∃ a c, (v = .slice a (nb x.toNat) c ∧ Ag w' a (nb x.toNat) c (be x.toNat) ∧ Below w.heap.size w w') :=
  (rbytes_any x hx.1 hx.2 w).mono fun e w' ⟨⟨a, c, h1, h2⟩, h3⟩ => ⟨_, h1, a, c, rfl, h2, h3⟩
theorem print_R (x : Int) (hx : 0 ≤ x ∧ x < 18446744073709551616) (w : World) :
    Calls Try.prog 26 #[.int .u64 x] w fun e w' => ∃ v, e = .returned v ∧ (v = .string (strOfNums (pr x.toNat)) ∧ Below w.heap.size w w') :=
  (print_any x hx.1 hx.2 w).mono fun e w' h => ⟨_, h.1, rfl, h.2⟩
end Go.Proofs.Yticbfhfmigdhiaa

/- References and nodes in memory. -/
import Derived.Test.YtalhnnjpjaeakabGreatG17
import Derived.Test.YtalhnnjpjaeakabGreatG18
import Derived.Deep.MidRow
namespace Go.Proofs.YtalhnnjpjaeakabGreat
open Go.RowKit
set_option linter.unusedVariables false
/-- The value of a reference. -/
structure RV where
  k : Int
  d : List Int
  a : Option Addr
  n : Nat
  c : Nat
def RV.cells (x : RV) : List Value := .int .i64 x.k :: (x.d.map (Value.int .u8) ++ [.slice x.a x.n x.c])
/-- The value of a node. -/
structure NV where
  k : Int
  pa : Option Addr
  pn : Nat
  pc : Nat
  va : Option Addr
  vn : Nat
  vc : Nat
  c : RV
  ka : Option Addr
  kn : Nat
  kc : Nat
def NV.cells (x : NV) : List Value := .int .i64 x.k :: .slice x.pa x.pn x.pc :: .slice x.va x.vn x.vc :: (x.c.cells ++ [.slice x.ka x.kn x.kc])
/-- Bytes in memory, in blocks of which K holds. -/
def AgK (K : Nat → Prop) (w : World) (a : Option Addr) (n c : Nat) (bs : List Int) : Prop := Ag w a n c bs ∧ n ≤ 140737488351232 ∧ ∀ g off, a = some ⟨g, off, none⟩ → 0 < n → K g
def RefAt (K : Nat → Prop) (w : World) (x : RV) (r : PR) : Prop := x.k = r.k ∧ x.d = r.d ∧ isB r.d ∧ r.d.length = 32 ∧ AgK K w x.a x.n x.c r.i
def KidsAt (K : Nat → Prop) (w : World) (a : Option Addr) (ks : List PR) : Prop := ∀ j r, ks[j]? = some r → ∃ g off y, a = some ⟨g, off, none⟩ ∧ K g ∧ w.rangeAt g (off + j * 34) y.cells ∧ RefAt K w y r
structure NodeAt (K : Nat → Prop) (w : World) (x : NV) (n : PN) : Prop where
  k : x.k = n.k
  p : AgK K w x.pa x.pn x.pc n.p
  v : AgK K w x.va x.vn x.vc n.v
  c : RefAt K w x.c n.c
  m : x.kn = n.ks.length ∧ x.kn ≤ x.kc ∧ x.kc ≤ maxLen ∧ x.kn ≤ 2199023255488 ∧ (x.ka = none → x.kn = 0 ∧ x.kc = 0)
  ks : KidsAt K w x.ka n.ks
/-- What leaves the blocks as they were. -/
def Keep (K L : Nat → Prop) (w w' : World) : Prop := ∀ g, K g → g < w.heap.size → w'.heap[g]? = w.heap[g]? ∧ L g
/-- In new memory that may be written. -/
def Own (base : Nat) (w : World) (g : Nat) : Prop := base ≤ g ∧ ∀ o, w.frozen? ⟨g, o, none⟩ = false
/-- A box that holds a node. -/
structure NBx (g : Nat) (v : World) (x : NV) : Prop where
  row : v.heap[g]? = some (.cells x.cells.toArray 95)
  l : x.c.d.length = 32
/-- A box that holds a reference. -/
structure RBx (g : Nat) (v : World) (x : RV) : Prop where
  row : v.heap[g]? = some (.cells x.cells.toArray 92)
  l : x.d.length = 32
theorem infoD : (Tryz.prog.info? 46).map (·.size) = some 32 := by kernel_rfl
end Go.Proofs.YtalhnnjpjaeakabGreat
/- What inlineKind and rightRef answer, where Decode of what is inline answers as it should. -/
namespace Go.Proofs.YtalhnnjpjaeakabGreat
open Go.RowKit
set_option linter.unusedVariables false
set_option maxRecDepth 100000
/-- The value of a reference, of a node, that is zero. -/
def rz : RV := ⟨0, z32, none, 0, 0⟩
def nz : NV := ⟨0, none, 0, 0, none, 0, 0, rz, none, 0, 0⟩
def DPost (w : World) (o : Option PN) : Ending → World → Prop := fun e w' => Below w.heap.size w w' ∧
  match o with
  | none => e = .returned (.tuple #[.agg nz.cells.toArray, .int .i64 50])
  | some n => ∃ y : NV, e = .returned (.tuple #[.agg y.cells.toArray, .int .i64 0]) ∧ NodeAt (Own w.heap.size w') w' y n
/-- Decode of these bytes answers as it should. -/
def DecSaid (b : List Int) : Prop := ∀ (a : Option Addr) (n c : Nat) (w : World), Ag w a n c b → n ≤ 140737488351232 → Calls Tryz.prog 69 #[.slice a n c] w (DPost w (ND b))
theorem Below.setRow {B : Nat} {w0 w : World} {g : Nat} (h : Below B w0 w) (hg : B ≤ g) (cs : Array Value) : Below B w0 (w.setRow g cs) :=
  h.trans ⟨rfl, rfl, rfl, by simp, fun k hk => setRow_other w g k cs (by omega)⟩
end Go.Proofs.YtalhnnjpjaeakabGreat
/- Steps over references, nodes and digests whole: load, store, the zero value, what is the same. -/
namespace Go.Proofs.YtalhnnjpjaeakabGreat
open Go.RowKit
set_option linter.unusedVariables false
set_option maxRecDepth 100000
def B8 (bs : List Int) : Array Value := (bs.map (Value.int .u8)).toArray
theorem B8_size (bs : List Int) : (B8 bs).size = bs.length := by simp [B8]
theorem B8_get (bs : List Int) (k : Nat) (h : k < bs.length) : (B8 bs)[k]? = some (.int .u8 (bs.getD k 0)) := by simp [B8, h]
theorem eq_loop (xs ys : List Int) (hx : xs.length = 32) (hy : ys.length = 32) (d : Nat) : ∀ (n k : Nat) (w : World), k + n = 32 →
    (forIn (m := Sem) (List.range' k n) ((none : Option Bool), ()) fun i _ => do
            let a ← part 5 (B8 xs) (i * 1)
            let b ← part 5 (B8 ys) (i * 1)
            let r ← Op.equalIn (d + 1) 5 a b
            if (!r) = true then pure (ForInStep.done (some false, ())) else pure (ForInStep.yield (none, ()))).run Tryz.prog w =
      .ok (if xs.drop k == ys.drop k then (none, ()) else (some false, ())) w
  | 0, k, w, hk => by
    have e1 : xs.drop k = [] := List.drop_eq_nil_of_le (by omega)
    have e2 : ys.drop k = [] := List.drop_eq_nil_of_le (by omega)
    rw [e1, e2]
    simp
  | n + 1, k, w, hk => by
    have ih := eq_loop xs ys hx hy d n (k + 1) w (by omega)
    have hlx : k < xs.length := by omega
    have hly : k < ys.length := by omega
    have px : (part 5 (B8 xs) (k * 1)).run Tryz.prog w = .ok (.int .u8 (xs.getD k 0)) w := by
      simp only [part, Sem.run_bind, isAgg, run_underlying Tryz.underlying5, Result.andThen_ok, Sem.run_pure, Bool.false_eq_true, if_false, Nat.mul_one, B8_get xs k hlx]
    have py : (part 5 (B8 ys) (k * 1)).run Tryz.prog w = .ok (.int .u8 (ys.getD k 0)) w := by
      simp only [part, Sem.run_bind, isAgg, run_underlying Tryz.underlying5, Result.andThen_ok, Sem.run_pure, Bool.false_eq_true, if_false, Nat.mul_one, B8_get ys k hly]
    have pe := run_equalIn_int w d 5 .u8 .u8 (xs.getD k 0) (ys.getD k 0) (P := Tryz.prog) Tryz.underlying5
    have dx : xs.drop k = xs.getD k 0 :: xs.drop (k + 1) := by rw [List.drop_eq_getElem_cons hlx]; simp [List.getD, List.getElem?_eq_getElem hlx]
    have dy : ys.drop k = ys.getD k 0 :: ys.drop (k + 1) := by rw [List.drop_eq_getElem_cons hly]; simp [List.getD, List.getElem?_eq_getElem hly]
    rw [List.range'_succ, List.forIn_cons]
    simp only [Sem.run_bind, px, py, pe, Result.andThen_ok]
    rw [dx, dy, List.cons_beq_cons]
    cases hc : (xs.getD k 0 == ys.getD k 0) with
    | false => simp
    | true =>
      simp only [Bool.not_true, Bool.false_eq_true, if_false, Sem.run_pure, Result.andThen_ok, Bool.true_and]
      exact ih
theorem eq_arr (xs ys : List Int) (hx : xs.length = 32) (hy : ys.length = 32) (d : Nat) (w : World) :
    (Op.equalIn (d + 1 + 1) 46 (.agg (B8 xs)) (.agg (B8 ys))).run Tryz.prog w = .ok (xs == ys) w := by
  have hs : (Tryz.prog.info? 5).map (·.size) = some 1 := by kernel_rfl
  cases hq : Tryz.prog.info? 5 with
  | none => simp [hq] at hs
  | some y =>
    have hy1 : y.size = 1 := by simpa [hq] using hs
    rw [Op.equalIn]
    simp only [Sem.run_bind, run_underlying Tryz.underlying46, Result.andThen_ok, sizeOf, typeInfo, run_program, hq, hy1, Sem.run_pure]
    have e := eq_loop xs ys hx hy d 32 0 w (by omega)
    rw [Std.Legacy.Range.forIn_eq_forIn_range']
    simp only [Std.Legacy.Range.size, List.drop_zero] at e ⊢
    rw [show (32 - 0 + 1 - 1) / 1 = 32 from rfl]
    rw [e]
    cases xs == ys <;> simp
theorem eqD (xs ys : List Int) (hx : xs.length = 32) (hy : ys.length = 32) (w : World) : (Op.equalIn 10000 46 (.agg (B8 xs)) (.agg (B8 ys))).run Tryz.prog w = .ok (xs == ys) w := eq_arr xs ys hx hy 9998 w
section
variable {w : World} {ops : Array Oper} {rest : List Oper} {o : Oper} {a : Act} {Q : Exit → Act → World → Prop}
end
end Go.Proofs.YtalhnnjpjaeakabGreat

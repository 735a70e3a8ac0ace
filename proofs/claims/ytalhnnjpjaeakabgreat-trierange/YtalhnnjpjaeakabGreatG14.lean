/- Items that a call makes: in blocks of its own; a row of them that grows; what Text answers. -/
import Derived.Test.YtalhnnjpjaeakabGreatG13
import Derived.Test.YtalhnnjpjaeakabGreatG12
namespace Go.Proofs.YtalhnnjpjaeakabGreat
open Go.RowKit
set_option linter.unusedVariables false
mutual
/-- An item lies in memory, in blocks of which P holds. -/
def LiesP (P : Nat → Prop) (w : World) : T → V → Prop
  | .mk l bs its, x => (x.l = l ∧ Ag w x.ba x.bn x.bc bs ∧ x.m = its.length ∧ x.m ≤ x.ic ∧ x.ic ≤ maxLen ∧ (x.bn ≤ 140737488351232 ∧ x.m ≤ 140737488351232) ∧ (∀ g off, x.ba = some ⟨g, off, none⟩ → 0 < x.bn → P g ∧ ∀ o, w.frozen? ⟨g, o, none⟩ = false)) ∧ LiesPAll P w its x.ia 0
def LiesPAll (P : Nat → Prop) (w : World) : List T → Option Addr → Nat → Prop
  | [], _, _ => True
  | t :: r, a, k => (∃ g off y, (a = some ⟨g, off, none⟩ ∧ P g) ∧ w.cell? ⟨g, off + k * 3, none⟩ = some (.bool y.l) ∧ w.cell? ⟨g, off + k * 3 + 1, none⟩ = some (.slice y.ba y.bn y.bc) ∧ w.cell? ⟨g, off + k * 3 + 2, none⟩ = some (.slice y.ia y.m y.ic) ∧ LiesP P w t y) ∧ LiesPAll P w r a (k + 1)
end
theorem liesP_eq {P : Nat → Prop} {w : World} {l : Bool} {bs : List Int} {its : List T} {x : V} : LiesP P w (.mk l bs its) x ↔ ((x.l = l ∧ Ag w x.ba x.bn x.bc bs ∧ x.m = its.length ∧ x.m ≤ x.ic ∧ x.ic ≤ maxLen ∧ (x.bn ≤ 140737488351232 ∧ x.m ≤ 140737488351232) ∧ (∀ g off, x.ba = some ⟨g, off, none⟩ → 0 < x.bn → P g ∧ ∀ o, w.frozen? ⟨g, o, none⟩ = false)) ∧ LiesPAll P w its x.ia 0) := by rw [LiesP]
theorem liesPAll_cons {P : Nat → Prop} {w : World} {t : T} {r : List T} {a : Option Addr} {k : Nat} : LiesPAll P w (t :: r) a k ↔ ((∃ g off y, (a = some ⟨g, off, none⟩ ∧ P g) ∧ w.cell? ⟨g, off + k * 3, none⟩ = some (.bool y.l) ∧ w.cell? ⟨g, off + k * 3 + 1, none⟩ = some (.slice y.ba y.bn y.bc) ∧ w.cell? ⟨g, off + k * 3 + 2, none⟩ = some (.slice y.ia y.m y.ic) ∧ LiesP P w t y) ∧ LiesPAll P w r a (k + 1)) := by rw [LiesPAll]
theorem liesPAll_nil {P : Nat → Prop} {w : World} {a : Option Addr} {k : Nat} : LiesPAll P w [] a k := by rw [LiesPAll]; trivial
theorem liesPAll_lies {P : Nat → Prop} {w : World} {a : Option Addr} : ∀ {its : List T} {k : Nat}, (∀ t ∈ its, ∀ x, LiesP P w t x → Lies w t x) → LiesPAll P w its a k → LiesAll w its a k
  | [], _, _, _ => liesAll_nil
  | t :: r, k, ih, h => by
    obtain ⟨⟨g, off, y, ⟨h1, _⟩, h2, h3, h4, h5⟩, hr⟩ := liesPAll_cons.1 h
    exact liesAll_cons.2 ⟨⟨g, off, y, h1, h2, h3, h4, ih t (List.mem_cons_self ..) y h5⟩, liesPAll_lies (fun u hu => ih u (List.mem_cons_of_mem _ hu)) hr⟩
theorem liesP_lies {P : Nat → Prop} {w : World} : ∀ t, ∀ x, LiesP P w t x → Lies w t x := by
  refine T.ind fun l bs its ih x h => ?_
  obtain ⟨⟨h1, h2, h3, h4, h5, h6, _⟩, h7⟩ := liesP_eq.1 h
  exact lies_eq.2 ⟨h1, h2, h3, h4, h5, h6, liesPAll_lies ih h7⟩
/-- The cells of an item. -/
def V.cells (y : V) : List Value := [.bool y.l, .slice y.ba y.bn y.bc, .slice y.ia y.m y.ic]
/-- A row of items of the call's own, from block 'base' on. -/
def OwnI (w : World) (base : Nat) (v : Value) (ys : List V) : Prop := w.ownsRow base 82 3 v ys.length (ys.flatMap V.cells)
end Go.Proofs.YtalhnnjpjaeakabGreat
/- A row of items as a list in memory; what Text answers. -/
namespace Go.Proofs.YtalhnnjpjaeakabGreat
open Go.RowKit
set_option linter.unusedVariables false
set_option maxRecDepth 100000
/-- Things and their values, one by one. -/
def AllP (P : Nat → Prop) (w : World) : List T → List V → Prop
  | [], [] => True
  | t :: ts, y :: ys => LiesP P w t y ∧ AllP P w ts ys
  | _, _ => False
theorem put3 {w : World} {g t : Nat} {x0 x1 x2 : Value} (h : w.heap[g]? = some (.cells #[x0, x1, x2] t)) (a b c : Value) :
    (((w.setCell ⟨g, 0, none⟩ a).setCell ⟨g, 1, none⟩ b).setCell ⟨g, 2, none⟩ c).heap[g]? = some (.cells #[a, b, c] t) := by
  have h1 := heap_setCell_same w g 0 _ t a h
  have h2 := heap_setCell_same _ g 1 _ t b h1
  have h3 := heap_setCell_same _ g 2 _ t c h2
  simpa using h3
theorem other3 {w : World} {g k : Nat} (hk : k ≠ g) (a b c : Value) : (((w.setCell ⟨g, 0, none⟩ a).setCell ⟨g, 1, none⟩ b).setCell ⟨g, 2, none⟩ c).heap[k]? = w.heap[k]? := by
  rw [heap_setCell_other _ _ _ _ hk, heap_setCell_other _ _ _ _ hk, heap_setCell_other _ _ _ _ hk]
theorem below3 {B : Nat} {w0 w : World} {g : Nat} (h : Below B w0 w) (hg : B ≤ g) (a b c : Value) : Below B w0 (((w.setCell ⟨g, 0, none⟩ a).setCell ⟨g, 1, none⟩ b).setCell ⟨g, 2, none⟩ c) :=
  ((h.setCell hg a).setCell hg b).setCell hg c
/-- The value of no item. -/
def z3 : Array Value := #[.bool false, .slice none 0 0, .slice none 0 0]
set_option maxHeartbeats 1000000 in
theorem text_any (a : Option Addr) (n c : Nat) (b : List Int) (w : World) (h : Ag w a n c b) (hn : n ≤ 140737488351232) :
    Calls Tryz.prog 32 #[.slice a n c] w fun e w' => e = .returned (.agg #[.bool false, .slice (some ⟨w.heap.size + 1, 0, none⟩) n n, .slice none 0 0]) ∧ Row (w.heap.size + 1) w' b ∧ Below w.heap.size w w' := by
  have hmk := run_make_row' (P := Tryz.prog) 27 5 (.int .u8 0) 1 Tryz.underlying27 info5b rfl .i64 .i64 n (by omega) (by omega)
  obtain ⟨w0, hw0⟩ : ∃ w0, w.alloc (.cells #[.bool false, .slice none 0 0, .slice none 0 0] 82) = w0 := ⟨_, rfl⟩
  have hs0 : w0.heap.size = w.heap.size + 1 := by rw [← hw0]; simp
  have hbw0 : Below w.heap.size w w0 := by rw [← hw0]; exact (Below.refl _ _).alloc (Nat.le_refl _) _
  have hres : w0.heap[w.heap.size]? = some (.cells #[.bool false, .slice none 0 0, .slice none 0 0] 82) := by rw [← hw0]; exact heap_alloc_new _ _
  have hrow : Row w0.heap.size (w0.alloc (.cells (madeCells #[.int .u8 0] n) 5)) (List.replicate n 0) := by
    unfold Row; rw [heap_alloc_new, made_bytes]
  have hbw : Below w.heap.size w (w0.alloc (.cells (madeCells #[.int .u8 0] n) 5)) := hbw0.alloc (by omega) _
  obtain ⟨w1, hrun, hrow1, ht⟩ := copy_row (o := 0) (dl := n) (dc := n) (da := some ⟨w0.heap.size, 0, none⟩) hrow (h.at hbw) rfl (by simp) (fun _ => rfl)
  rw [List.take_zero, List.nil_append, Nat.zero_add, List.drop_of_length_le (by simp), List.append_nil] at hrow1
  have hres1 : w1.heap[w.heap.size]? = some (.cells #[.bool false, .slice none 0 0, .slice none 0 0] 82) := (ht.block _ (by simp; omega) (by omega)).trans ((Below.heap_alloc _ _ _ (by omega)).trans hres)
  have hb1 := Touch.below hbw ht (by omega) hbw.size
  rw [hs0] at hrun hrow1
  rw [← hw0] at hrun
  have HRUN := Hid.mk hrun
  have HROW := Hid.mk hrow1
  have HB := Hid.mk hb1
  have HRES := Hid.mk hres1
  have x0 : w1.cell? ⟨w.heap.size, 0, none⟩ = some (.bool false) := by rw [cell_of_row _ _ _ _ _ _ hres1]; rfl
  have x1 : w1.cell? ⟨w.heap.size, 1, none⟩ = some (.slice none 0 0) := by rw [cell_of_row _ _ _ _ _ _ hres1]; rfl
  have x2 : w1.cell? ⟨w.heap.size, 2, none⟩ = some (.slice none 0 0) := by rw [cell_of_row _ _ _ _ _ _ hres1]; rfl
  have xf : ∀ o, w1.frozen? ⟨w.heap.size, o, none⟩ = false := fun o => frozen_of_row _ _ _ _ _ hres1
  clear hrow hrun hrow1 ht hbw h hw0 hs0 hbw0 hres hres1 hb1
  go_enter Tryz.func32, Tryz.ntmps32
  go_wp2_with (first | refine wpl_copy rfl _ _ rfl _ _ rfl rfl (HRUN.out _) ?_)
  have hr := put3 HRES.out (.bool false) (.slice (some ⟨w.heap.size + 1, 0, none⟩) n n) (.slice none 0 0)
  refine bodyPost_ret (results_cell_row Tryz.results32 _ _ w.heap.size 82 _ (0, 0) _ rfl hr Tryz.underlying82 rfl (by kernel_rfl)) rfl ?_
  exact ⟨rfl, (other3 (by omega) _ _ _).trans HROW.out, below3 HB.out (Nat.le_refl _) _ _ _⟩
end Go.Proofs.YtalhnnjpjaeakabGreat
/- What readAll answers, by what read answers. -/
namespace Go.Proofs.YtalhnnjpjaeakabGreat
open Go.RowKit
set_option linter.unusedVariables false
set_option maxRecDepth 100000
def lenOf : Value → Nat | .slice _ n _ => n | _ => 0
/-- What read leaves. -/
def ReadPost (w : World) (r : R) : Ending → World → Prop := fun e w' => Below w.heap.size w w' ∧
  match r with
  | .bad er => e = .returned (.tuple #[.agg #[.bool false, .slice none 0 0, .slice none 0 0], .int .i64 0, .int .i64 (er : Nat)]) ∧ er ≠ 0
  | .ok t m => ∃ y : V, e = .returned (.tuple #[.agg #[.bool y.l, .slice y.ba y.bn y.bc, .slice y.ia y.m y.ic], .int .i64 (m : Nat), .int .i64 0]) ∧ LiesP (fun b => w.heap.size ≤ b) w' t y
def ReadSaid (k : Nat) : Prop := ∀ (a : Option Addr) (n c d : Nat) (b : List Int) (w : World), Ag w a n c b → d + k = 8 → n ≤ 140737488351232 → Calls Tryz.prog 72 #[.slice a n c, .int .i64 d] w (ReadPost w (rd k b))
/-- What readAll leaves. -/
def AllPost (w : World) (r : RL) : Ending → World → Prop := fun e w' => Below w.heap.size w w' ∧
  match r with
  | .bad er => e = .returned (.tuple #[.slice none 0 0, .int .i64 (er : Nat)]) ∧ er ≠ 0
  | .ok ts => ∃ ia ic, e = .returned (.tuple #[.slice ia ts.length ic, .int .i64 0]) ∧ ts.length ≤ ic ∧ ic ≤ maxLen ∧ LiesPAll (fun b => w.heap.size ≤ b) w' ts ia 0
/-- What was read, and what is to come. -/
def RL.pre (ts : List T) : RL → RL
  | .bad e => .bad e
  | .ok us => .ok (ts ++ us)
end Go.Proofs.YtalhnnjpjaeakabGreat

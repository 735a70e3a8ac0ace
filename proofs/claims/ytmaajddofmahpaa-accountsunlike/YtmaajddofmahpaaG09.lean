/- A row of items as a list in memory; what Text answers. -/
import Derived.Test.YtmaajddofmahpaaG08
namespace Go.Proofs.Ytmaajddofmahpaa
open Go.RowKit
set_option linter.unusedVariables false
set_option maxRecDepth 100000
/-- Things and their values, one by one. -/
def AllP (P : Nat → Prop) (w : World) : List T → List V → Prop
  | [], [] => True
  | t :: ts, y :: ys => LiesP P w t y ∧ AllP P w ts ys
  | _, _ => False
theorem flat_get (pre : List V) (y : V) (ys : List V) (j : Nat) (u : Value) (h : (V.cells y)[j]? = some u) : ((pre ++ y :: ys).flatMap V.cells)[pre.length * 3 + j]? = some u := by
  rw [List.flatMap_append, List.getElem?_append_right (by rw [flat_len]; omega), flat_len, Nat.add_sub_cancel_left, List.flatMap_cons, List.getElem?_append_left (List.getElem?_eq_some_iff.1 h).1, h]
theorem put3 {w : World} {g t : Nat} {x0 x1 x2 : Value} (h : w.heap[g]? = some (.cells #[x0, x1, x2] t)) (a b c : Value) :
    (((w.setCell ⟨g, 0, none⟩ a).setCell ⟨g, 1, none⟩ b).setCell ⟨g, 2, none⟩ c).heap[g]? = some (.cells #[a, b, c] t) := by
  have h1 := heap_setCell_same w g 0 _ t a h
  have h2 := heap_setCell_same _ g 1 _ t b h1
  have h3 := heap_setCell_same _ g 2 _ t c h2
  simpa using h3
theorem other3 {w : World} {g k : Nat} (hk : k ≠ g) (a b c : Value) : (((w.setCell ⟨g, 0, none⟩ a).setCell ⟨g, 1, none⟩ b).setCell ⟨g, 2, none⟩ c).heap[k]? = w.heap[k]? := by
  rw [heap_setCell_other _ _ _ _ hk, heap_setCell_other _ _ _ _ hk, heap_setCell_other _ _ _ _ hk]
theorem below3 {B : Nat} {w0 w : World} {g : Nat} (h : Below B w0 w) (hg : B ≤ g) (a b c : Value) : Below B w0 (((w.setCell ⟨g, 0, none⟩ a).setCell ⟨g, 1, none⟩ b).setCell ⟨g, 2, none⟩ c) :=
  ((h.setCell hg a).setCell hg b).setCell hg c
/-- The value of no item. -/
def z3 : Array Value := #[.bool false, .slice none 0 0, .slice none 0 0]
set_option maxHeartbeats 1000000 in
theorem text_any (a : Option Addr) (n c : Nat) (b : List Int) (w : World) (h : Ag w a n c b) (hn : n ≤ 140737488351232) :
    Calls Try.prog 40 #[.slice a n c] w fun e w' => e = .returned (.agg #[.bool false, .slice (some ⟨w.heap.size + 1, 0, none⟩) n n, .slice none 0 0]) ∧ Row (w.heap.size + 1) w' b ∧ Below w.heap.size w w' := by
  have hmk := run_make_row' (P := Try.prog) 29 5 (.int .u8 0) 1 Try.underlying29 info5b rfl .i64 .i64 n (by omega) (by omega)
  obtain ⟨w0, hw0⟩ : ∃ w0, w.alloc (.cells #[.bool false, .slice none 0 0, .slice none 0 0] 46) = w0 := ⟨_, rfl⟩
  have hs0 : w0.heap.size = w.heap.size + 1 := by rw [← hw0]; simp
  have hbw0 : Below w.heap.size w w0 := by rw [← hw0]; exact (Below.refl _ _).alloc (Nat.le_refl _) _
  have hres : w0.heap[w.heap.size]? = some (.cells #[.bool false, .slice none 0 0, .slice none 0 0] 46) := by rw [← hw0]; exact heap_alloc_new _ _
  have hrow : Row w0.heap.size (w0.alloc (.cells (madeCells #[.int .u8 0] n) 5)) (List.replicate n 0) := by
    unfold Row; rw [heap_alloc_new, made_bytes]
  have hbw : Below w.heap.size w (w0.alloc (.cells (madeCells #[.int .u8 0] n) 5)) := hbw0.alloc (by omega) _
  obtain ⟨w1, hrun, hrow1, ht⟩ := copy_row (o := 0) (dl := n) (dc := n) (da := some ⟨w0.heap.size, 0, none⟩) hrow (h.at hbw) rfl (by simp) (fun _ => rfl)
  rw [List.take_zero, List.nil_append, Nat.zero_add, List.drop_of_length_le (by simp), List.append_nil] at hrow1
  have hres1 : w1.heap[w.heap.size]? = some (.cells #[.bool false, .slice none 0 0, .slice none 0 0] 46) := (ht.block _ (by simp; omega) (by omega)).trans ((Below.heap_alloc _ _ _ (by omega)).trans hres)
  have hb1 := Touch.below hbw ht (by omega) hbw.size
  rw [hs0] at hrun hrow1
  rw [← hw0] at hrun
  have HRUN := Hid.mk hrun
  have HROW := Hid.mk hrow1
  have HB := Hid.mk hb1
  have HRES := Hid.mk hres1
  have x0 : w1.cell? ⟨w.heap.size, 0, none⟩ = some (.bool false) := by rw [cell_of_row _ _ _ _ _ _ hres1]; rfl
  have x1 : w1.cell? ⟨w.heap.size, 1, none⟩ = some (.slice none 0 0) := by rw [cell_of_row _ _ _ _ _ _ hres1]; rfl
  have x2 : w1.cell? ⟨w.heap.size, 2, none⟩ = some (.slice none 0 0) := by rw [cell_of_row _ _ _ _ _ _ hres1]; rfl
  have xf : ∀ o, w1.frozen? ⟨w.heap.size, o, none⟩ = false := fun o => frozen_of_row _ _ _ _ _ hres1
  clear hrow hrun hrow1 ht hbw h hw0 hs0 hbw0 hres hres1 hb1
  go_enter Try.func40, Try.ntmps40
  go_wp2_with (first | refine wpl_copy rfl _ _ rfl _ _ rfl rfl (HRUN.out _) ?_)
  have hr := put3 HRES.out (.bool false) (.slice (some ⟨w.heap.size + 1, 0, none⟩) n n) (.slice none 0 0)
  refine bodyPost_ret (results_cell_row Try.results40 _ _ w.heap.size 46 _ (0, 0) _ rfl hr Try.underlying46 rfl (by kernel_rfl)) rfl ?_
  exact ⟨rfl, (other3 (by omega) _ _ _).trans HROW.out, below3 HB.out (Nat.le_refl _) _ _ _⟩
end Go.Proofs.Ytmaajddofmahpaa
/- What readAll answers, by what read answers. -/
namespace Go.Proofs.Ytmaajddofmahpaa
open Go.RowKit
set_option linter.unusedVariables false
set_option maxRecDepth 100000
def lenOf : Value → Nat | .slice _ n _ => n | _ => 0
/-- What read leaves. -/
def ReadPost (w : World) (r : R) : Ending → World → Prop := fun e w' => Below w.heap.size w w' ∧
  match r with
  | .bad er => e = .returned (.tuple #[.agg #[.bool false, .slice none 0 0, .slice none 0 0], .int .i64 0, .int .i64 (er : Nat)]) ∧ er ≠ 0
  | .ok t m => ∃ y : V, e = .returned (.tuple #[.agg #[.bool y.l, .slice y.ba y.bn y.bc, .slice y.ia y.m y.ic], .int .i64 (m : Nat), .int .i64 0]) ∧ LiesP (fun b => w.heap.size ≤ b) w' t y
def ReadSaid (k : Nat) : Prop := ∀ (a : Option Addr) (n c d : Nat) (b : List Int) (w : World), Ag w a n c b → d + k = 8 → n ≤ 140737488351232 → Calls Try.prog 59 #[.slice a n c, .int .i64 d] w (ReadPost w (rd k b))
/-- What readAll leaves. -/
def AllPost (w : World) (r : RL) : Ending → World → Prop := fun e w' => Below w.heap.size w w' ∧
  match r with
  | .bad er => e = .returned (.tuple #[.slice none 0 0, .int .i64 (er : Nat)]) ∧ er ≠ 0
  | .ok ts => ∃ ia ic, e = .returned (.tuple #[.slice ia ts.length ic, .int .i64 0]) ∧ ts.length ≤ ic ∧ ic ≤ maxLen ∧ LiesPAll (fun b => w.heap.size ≤ b) w' ts ia 0
/-- What was read, and what is to come. -/
def RL.pre (ts : List T) : RL → RL
  | .bad e => .bad e
  | .ok us => .ok (ts ++ us)
end Go.Proofs.Ytmaajddofmahpaa

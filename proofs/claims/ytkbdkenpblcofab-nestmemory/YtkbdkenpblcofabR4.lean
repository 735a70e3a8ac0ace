/- A row of items as a list in memory; what Text answers. -/
import Derived.Test.YtkbdkenpblcofabR3
namespace Go.Proofs.Ytkbdkenpblcofab
open Go.RowKit
set_option linter.unusedVariables false
/-- Things and their values, one by one. -/
def AllP (P : Nat → Prop) (w : World) : List T → List V → Prop
  | [], [] => True
  | t :: ts, y :: ys => LiesP P w t y ∧ AllP P w ts ys
  | _, _ => False
theorem AllP.len {P : Nat → Prop} {w : World} : ∀ {ts : List T} {ys : List V}, AllP P w ts ys → ts.length = ys.length
  | [], [], _ => rfl
  | t :: ts, y :: ys, h => by have := AllP.len h.2; simp [this]
theorem AllP.mono {P Q : Nat → Prop} {w w' : World} (hk : ∀ b, P b → b < w.heap.size → w'.heap[b]? = w.heap[b]? ∧ Q b) : ∀ {ts : List T} {ys : List V}, AllP P w ts ys → AllP Q w' ts ys
  | [], [], _ => trivial
  | t :: ts, y :: ys, h => ⟨liesP_mono hk t y h.1, AllP.mono hk h.2⟩
theorem AllP.snoc {P : Nat → Prop} {w : World} {t : T} {y : V} (h1 : LiesP P w t y) : ∀ {ts : List T} {ys : List V}, AllP P w ts ys → AllP P w (ts ++ [t]) (ys ++ [y])
  | [], [], _ => ⟨h1, trivial⟩
  | _ :: ts, _ :: ys, h => ⟨h.1, AllP.snoc h1 h.2⟩
theorem flat_get (pre : List V) (y : V) (ys : List V) (j : Nat) (u : Value) (h : (V.cells y)[j]? = some u) : ((pre ++ y :: ys).flatMap V.cells)[pre.length * 3 + j]? = some u := by
  rw [List.flatMap_append, List.getElem?_append_right (by rw [flat_len]; omega), flat_len, Nat.add_sub_cancel_left, List.flatMap_cons, List.getElem?_append_left (List.getElem?_eq_some_iff.1 h).1, h]
theorem row_lies {P : Nat → Prop} {w : World} {g : Nat} {all : List V} (hc : ∀ j u, (all.flatMap V.cells)[j]? = some u → w.cell? ((⟨g, 0, none⟩ : Addr).add j) = some u) (hP : P g) :
    ∀ (ts : List T) (ys pre : List V), all = pre ++ ys → AllP P w ts ys → LiesPAll P w ts (some ⟨g, 0, none⟩) pre.length
  | [], [], pre, _, _ => liesPAll_nil
  | t :: ts, y :: ys, pre, e, h => by
    have hr := row_lies hc hP ts ys (pre ++ [y]) (by rw [e]; simp) h.2
    rw [List.length_append] at hr
    refine liesPAll_cons.2 ⟨⟨g, 0, y, ⟨rfl, hP⟩, ?_, ?_, ?_, h.1⟩, hr⟩
    · have := hc (pre.length * 3 + 0) (.bool y.l) (by rw [e]; exact flat_get pre y ys 0 _ rfl)
      rw [addr_add] at this
      simpa using this
    · have := hc (pre.length * 3 + 1) (.slice y.ba y.bn y.bc) (by rw [e]; exact flat_get pre y ys 1 _ rfl)
      rw [addr_add] at this
      rw [show 0 + pre.length * 3 + 1 = 0 + (pre.length * 3 + 1) from by omega]
      exact this
    · have := hc (pre.length * 3 + 2) (.slice y.ia y.m y.ic) (by rw [e]; exact flat_get pre y ys 2 _ rfl)
      rw [addr_add] at this
      rw [show 0 + pre.length * 3 + 2 = 0 + (pre.length * 3 + 2) from by omega]
      exact this
theorem own_lies {P : Nat → Prop} {w : World} {base : Nat} {v : Value} {ys : List V} {ts : List T} (hown : OwnI w base v ys) (h : AllP P w ts ys) (hP : ∀ g, v.ownBlock = some g → P g) :
    ∃ ia ic, v = .slice ia ts.length ic ∧ ts.length ≤ ic ∧ ic ≤ maxLen ∧ LiesPAll P w ts ia 0 := by
  have hl := h.len
  rcases hown.2 with ⟨rfl, hn0⟩ | ⟨g, cap, cur, rfl, hbg, hg, hnc, hcm, hcs, htake⟩
  · have : ts = [] := List.eq_nil_of_length_eq_zero (by omega)
    subst this
    exact ⟨none, 0, rfl, Nat.le_refl _, by unfold maxLen; omega, liesPAll_nil⟩
  · exact ⟨some ⟨g, 0, none⟩, cap, by rw [hl], by omega, hcm, row_lies (World.ownsRow.cells hown (g := g) rfl) (hP g rfl) ts ys [] rfl h⟩
theorem results_row2 {fn : Func} {p u : Tmp} (h : fn.results = #[.cell p 25, .tmp u]) (tmps : Array Value) (w : World) (g : Nat) (a b c : Value)
    (hp : tmps.getD p undef = .pointer (some ⟨g, 0, none⟩)) (hg : w.heap[g]? = some (.cells #[a, b, c] 25)) :
    (results fn tmps).run Try.prog w = .ok (.tuple #[.agg #[a, b, c], tmps.getD u undef]) w := by
  have hp' : tmps[p]?.getD undef = .pointer (some ⟨g, 0, none⟩) := by simpa using hp
  simp [results, h, hp', asAddr, run_loadVar_row (P := Try.prog) w g 25 25 #[a, b, c] (0, 0) _ hg Try.underlying25 rfl (by kernel_rfl)]
theorem results_row3 {fn : Func} {p u v : Tmp} (h : fn.results = #[.cell p 25, .tmp u, .tmp v]) (tmps : Array Value) (w : World) (g : Nat) (a b c : Value)
    (hp : tmps.getD p undef = .pointer (some ⟨g, 0, none⟩)) (hg : w.heap[g]? = some (.cells #[a, b, c] 25)) :
    (results fn tmps).run Try.prog w = .ok (.tuple #[.agg #[a, b, c], tmps.getD u undef, tmps.getD v undef]) w := by
  have hp' : tmps[p]?.getD undef = .pointer (some ⟨g, 0, none⟩) := by simpa using hp
  simp [results, h, hp', asAddr, run_loadVar_row (P := Try.prog) w g 25 25 #[a, b, c] (0, 0) _ hg Try.underlying25 rfl (by kernel_rfl)]
theorem put3 {w : World} {g t : Nat} {x0 x1 x2 : Value} (h : w.heap[g]? = some (.cells #[x0, x1, x2] t)) (a b c : Value) :
    (((w.setCell ⟨g, 0, none⟩ a).setCell ⟨g, 1, none⟩ b).setCell ⟨g, 2, none⟩ c).heap[g]? = some (.cells #[a, b, c] t) := by
  have h1 := heap_setCell_same w g 0 _ t a h
  have h2 := heap_setCell_same _ g 1 _ t b h1
  have h3 := heap_setCell_same _ g 2 _ t c h2
  simpa using h3
theorem other3 {w : World} {g k : Nat} (hk : k ≠ g) (a b c : Value) : (((w.setCell ⟨g, 0, none⟩ a).setCell ⟨g, 1, none⟩ b).setCell ⟨g, 2, none⟩ c).heap[k]? = w.heap[k]? := by
  rw [heap_setCell_other _ _ _ _ hk, heap_setCell_other _ _ _ _ hk, heap_setCell_other _ _ _ _ hk]
theorem below3 {B : Nat} {w0 w : World} {g : Nat} (h : Below B w0 w) (hg : B ≤ g) (a b c : Value) : Below B w0 (((w.setCell ⟨g, 0, none⟩ a).setCell ⟨g, 1, none⟩ b).setCell ⟨g, 2, none⟩ c) :=
  ((h.setCell hg a).setCell hg b).setCell hg c
/-- The value of no item. -/
def z3 : Array Value := #[.bool false, .slice none 0 0, .slice none 0 0]
set_option maxHeartbeats 1000000 in
theorem text_any (a : Option Addr) (n c : Nat) (b : List Int) (w : World) (h : Ag w a n c b) (hn : n ≤ 140737488351232) :
    Calls Try.prog 12 #[.slice a n c] w fun e w' => e = .returned (.agg #[.bool false, .slice (some ⟨w.heap.size + 1, 0, none⟩) n n, .slice none 0 0]) ∧ Row (w.heap.size + 1) w' b ∧ Below w.heap.size w w' := by
  have hmk := run_make_row' (P := Try.prog) 23 5 (.int .u8 0) 1 Try.underlying23 info5b rfl .i64 .i64 n (by omega) (by omega)
  obtain ⟨w0, hw0⟩ : ∃ w0, w.alloc (.cells #[.bool false, .slice none 0 0, .slice none 0 0] 25) = w0 := ⟨_, rfl⟩
  have hs0 : w0.heap.size = w.heap.size + 1 := by rw [← hw0]; simp
  have hbw0 : Below w.heap.size w w0 := by rw [← hw0]; exact (Below.refl _ _).alloc (Nat.le_refl _) _
  have hres : w0.heap[w.heap.size]? = some (.cells #[.bool false, .slice none 0 0, .slice none 0 0] 25) := by rw [← hw0]; exact heap_alloc_new _ _
  have hrow : Row w0.heap.size (w0.alloc (.cells (madeCells #[.int .u8 0] n) 5)) (List.replicate n 0) := by
    unfold Row; rw [heap_alloc_new, made_bytes]
  have hbw : Below w.heap.size w (w0.alloc (.cells (madeCells #[.int .u8 0] n) 5)) := hbw0.alloc (by omega) _
  obtain ⟨w1, hrun, hrow1, ht⟩ := copy_row (o := 0) (dl := n) (dc := n) (da := some ⟨w0.heap.size, 0, none⟩) hrow (h.at hbw) rfl (by simp) (fun _ => rfl)
  rw [List.take_zero, List.nil_append, Nat.zero_add, List.drop_of_length_le (by simp), List.append_nil] at hrow1
  have hres1 : w1.heap[w.heap.size]? = some (.cells #[.bool false, .slice none 0 0, .slice none 0 0] 25) := (ht.block _ (by simp; omega) (by omega)).trans ((Below.heap_alloc _ _ _ (by omega)).trans hres)
  have hb1 := Touch.below hbw ht (by omega) hbw.size
  rw [hs0] at hrun hrow1
  rw [← hw0] at hrun
  have HRUN := Hid.mk hrun
  have HROW := Hid.mk hrow1
  have HB := Hid.mk hb1
  have HRES := Hid.mk hres1
  have x0 : w1.cell? ⟨w.heap.size, 0, none⟩ = some (.bool false) := by rw [cell_of_row _ _ _ _ _ _ hres1]; rfl
  have x1 : w1.cell? ⟨w.heap.size, 1, none⟩ = some (.slice none 0 0) := by rw [cell_of_row _ _ _ _ _ _ hres1]; rfl
  have x2 : w1.cell? ⟨w.heap.size, 2, none⟩ = some (.slice none 0 0) := by rw [cell_of_row _ _ _ _ _ _ hres1]; rfl
  have xf : ∀ o, w1.frozen? ⟨w.heap.size, o, none⟩ = false := fun o => frozen_of_row _ _ _ _ _ hres1
  clear hrow hrun hrow1 ht hbw h hw0 hs0 hbw0 hres hres1 hb1
  go_enter Try.func12, Try.ntmps12
  go_wp2_with (first | refine wpl_copy rfl _ _ rfl _ _ rfl rfl (HRUN.out _) ?_)
  have hr := put3 HRES.out (.bool false) (.slice (some ⟨w.heap.size + 1, 0, none⟩) n n) (.slice none 0 0)
  refine bodyPost_ret (results_cell_row Try.results12 _ _ w.heap.size 25 _ (0, 0) _ rfl hr Try.underlying25 rfl (by kernel_rfl)) rfl ?_
  exact ⟨rfl, (other3 (by omega) _ _ _).trans HROW.out, below3 HB.out (Nat.le_refl _) _ _ _⟩
end Go.Proofs.Ytkbdkenpblcofab

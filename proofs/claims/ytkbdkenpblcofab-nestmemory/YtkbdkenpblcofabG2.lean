/- What the document's first answers, for bytes that begin with a text, or with nothing. -/
import Derived.Test.YtkbdkenpblcofabG1
namespace Go.Proofs.Ytkbdkenpblcofab
open Go.RowKit
set_option linter.unusedVariables false
theorem rfirst_end (a : Option Addr) (n c i j d : Nat) (w : World) (k : Nat) (b : List Int) (hij : ¬ i < j) (hi : i ≤ 140737488351232) (hrd : rd k (pc b i j) = .bad 22) :
    Calls Try.prog 27 #[.slice a n c, .int .i64 i, .int .i64 j, .int .i64 d] w (FPost w i (rd k (pc b i j))) := by
  rw [hrd]
  have hge : (i : Int) ≥ j := by omega
  clear hrd
  go_enter Try.func27, Try.ntmps27
  go_upto_if 18 with fail
  refine gen_w (p := fun v => Code.wp _ _ _ _ v) (q := Rb w) (Rb.new w) ?_
  intro v R
  have x0 := R.x0
  have x1 := R.x1
  have x2 := R.x2
  have xf := R.xf
  have HR := Hid.mk R
  clear R
  go_wp2_with fail
  have hr := put3 HR.out.row (.bool false) (.slice none 0 0) (.slice none 0 0)
  refine bodyPost_ret (results_row3 Try.results27 _ _ w.heap.size _ _ _ rfl hr) rfl ?_
  exact ⟨below3 HR.out.bel (Nat.le_refl _) _ _ _, rfl, by decide⟩
theorem rfirst_deep (a : Option Addr) (n c i j : Nat) (w : World) (b : List Int) (h : Ag w a n c b) (hn : n ≤ 140737488351232) (hij : i < j) (hj : j ≤ n) (x : Int) (hx : b.getD i 0 = x) (h192 : 192 ≤ x) (res : R) (hres : res = .bad 21) :
    Calls Try.prog 27 #[.slice a n c, .int .i64 i, .int .i64 j, .int .i64 8] w (FPost w i res) := by
  subst hres
  obtain ⟨g, off, rfl, hc1, hc2, hc⟩ := ag_head h (by omega)
  unfold maxLen at hc2
  have hcell := hc i (by omega)
  rw [hx] at hcell
  have hxb := (h.b x (by rw [← hx, List.getD, List.getElem?_eq_getElem (by rw [h.l]; omega)]; exact List.getElem_mem _)).2
  have hlt : (i : Int) < j := by omega
  have hin : (i : Int) < n := by omega
  clear hx hc h
  go_enter Try.func27, Try.ntmps27
  go_upto_if 18 with fail
  have hcw := below_cell (Rb.new w).bel hcell
  refine gen_w (p := fun v => Code.wp _ _ _ _ v) (q := fun v => Rb w v ∧ v.cell? ⟨g, off + i, none⟩ = some (.int .u8 x)) ⟨Rb.new w, hcw⟩ ?_
  clear hcell hcw
  rintro v ⟨R, hcell⟩
  have x0 := R.x0
  have x1 := R.x1
  have x2 := R.x2
  have xf := R.xf
  have HR := Hid.mk R
  clear R
  go_wp2_with fail
  have hr := put3 HR.out.row (.bool false) (.slice none 0 0) (.slice none 0 0)
  refine bodyPost_ret (results_row3 Try.results27 _ _ w.heap.size _ _ _ rfl hr) rfl ?_
  exact ⟨below3 HR.out.bel (Nat.le_refl _) _ _ _, rfl, by decide⟩
set_option maxHeartbeats 1000000 in
theorem rfirst_low (a : Option Addr) (n c i j d : Nat) (w : World) (b : List Int) (h : Ag w a n c b) (hn : n ≤ 140737488351232) (hij : i < j) (hj : j ≤ n) (x : Int) (hx : b.getD i 0 = x) (h128 : x < 128) (res : R) (hres : res = .ok (.mk false [x] []) 1) :
    Calls Try.prog 27 #[.slice a n c, .int .i64 i, .int .i64 j, .int .i64 d] w (FPost w i res) := by
  subst hres
  obtain ⟨g, off, rfl, hc1, hc2, hc⟩ := ag_head h (by omega)
  unfold maxLen at hc2
  have hcell := hc i (by omega)
  rw [hx] at hcell
  have hxb := (h.b x (by rw [← hx, List.getD, List.getElem?_eq_getElem (by rw [h.l]; omega)]; exact List.getElem_mem _)).1
  have hlt : (i : Int) < j := by omega
  have hin : (i : Int) < n := by omega
  clear hx hc h
  go_enter Try.func27, Try.ntmps27
  go_upto_if 18 with fail
  have hcw := below_cell (Rb.new w).bel hcell
  refine gen_w (p := fun v => Code.wp _ _ _ _ v) (q := fun v => Rb w v ∧ v.cell? ⟨g, off + i, none⟩ = some (.int .u8 x)) ⟨Rb.new w, hcw⟩ ?_
  clear hcell hcw
  rintro v ⟨R, hcell⟩
  have HR := Hid.mk R
  clear R
  have R2 := HR.out.alloc (.cells #[.int .u8 x] 5)
  have HR2 := Hid.mk R2
  have x0 := R2.x0
  have x1 := R2.x1
  have x2 := R2.x2
  have xf := R2.xf
  clear R2
  go_wp2_with fail
  have hr := put3 HR2.out.row (.bool false) (.slice (some ⟨v.heap.size, 0, none⟩) 1 1) (.slice none 0 0)
  refine bodyPost_ret (results_row3 Try.results27 _ _ w.heap.size _ _ _ rfl hr) rfl ?_
  have hz := HR.out.bel.size
  have hz2 := lt_of_get HR.out.row
  refine ⟨below3 HR2.out.bel (Nat.le_refl _) _ _ _, ⟨false, some ⟨v.heap.size, 0, none⟩, 1, 1, none, 0, 0⟩, by simp, ?_⟩
  have hrow : Row v.heap.size (((v.alloc (.cells #[.int .u8 x] 5)).setCell ⟨w.heap.size, 0, none⟩ (.bool false)).setCell ⟨w.heap.size, 1, none⟩ (.slice (some ⟨v.heap.size, 0, none⟩) 1 1) |>.setCell ⟨w.heap.size, 2, none⟩ (.slice none 0 0)) [x] :=
    (other3 (by omega) _ _ _).trans (heap_alloc_new _ _)
  exact liesP_text hrow rfl (fun y hy => by
    have e : y = x := by simpa using hy
    omega) (by omega) (by omega)
end Go.Proofs.Ytkbdkenpblcofab

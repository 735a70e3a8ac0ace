/- What the survey's body answers of a text. -/
import Derived.Test.YtkbdkenpblcofabM4
namespace Go.Proofs.Ytkbdkenpblcofab
open Go.RowKit
set_option linter.unusedVariables false
set_option maxHeartbeats 1000000 in
theorem body_text (bs : List Int) (its : List T) (x : V) (d W g : Nat) (w0 w : World) (hli : Lies w0 (.mk false bs its) x) (hbel : Below w0.heap.size w0 w) (hg : w0.heap.size ≤ g) (hcell : w.heap[g]? = some (.cells #[.int .i64 W] 48)) (hW : W ≤ 16777215) (hd : d ≤ 8)
    (hdeep : ¬ (false = true ∧ d = 8)) (hwf : wrongForm false bs its = false) (hlong : W + wt false bs d ≤ 16777215) :
    Calls Try.prog 21 #[.pointer (some ⟨g, 0, none⟩), .agg #[.bool x.l, .slice x.ba x.bn x.bc, .slice x.ia x.m x.ic], .int .i64 d] w (BodyPost (.mk false bs its) d W g w) := by
  obtain ⟨l', ba, bn, bc, ia, m, ic⟩ := x
  obtain ⟨h1, h2, h3, h4, h5, ⟨h7, h8⟩, h6⟩ := lies_eq.1 hli
  simp only at h1 h2 h3 h4 h5 h6 h7 h8 ⊢
  subst h1
  have hgl := lt_of_get hcell
  have hbn : bn ≤ maxLen := by unfold maxLen; omega
  have hic : ic ≤ 2 ^ 63 - 1 := h5
  have hm : m ≤ 2 ^ 63 - 1 := by omega
  have hbn2 : bn ≤ 2 ^ 63 - 1 := hbn
  have c0 : ∀ o, (w.alloc o).cell? ⟨g, 0, none⟩ = some (.int .i64 W) := cell_alloc (by rw [cell_of_row _ _ _ _ _ _ hcell]; rfl)
  have f0 : ∀ o, (w.alloc o).frozen? ⟨g, 0, none⟩ = false := fun o => frozen_of_row _ _ _ _ _ ((Below.heap_alloc w o _ hgl).trans hcell)
  have HL := Hid.mk h2.l
  have H3 := Hid.mk h3
  have H6 := Hid.mk h6
  have HCE := Hid.mk hcell
  obtain ⟨wx, hwx⟩ : ∃ wx, wt false bs d = wx := ⟨_, rfl⟩
  have HWX := Hid.mk hwx
  rw [hwx] at hlong
  have hwle : W + wx ≤ 150000000000000 := by omega
  have hl2 : ¬ (16777215 : Int) < ((W + wx : Nat) : Int) := by omega
  have hW0 : W + wx ≤ 16777215 := hlong
  have hfin : wk (T.mk false bs its) d W = wks its (d + 1) (W + wx) := by
    rw [wk_eq, if_neg (by simp), if_neg (by rw [hwf]; decide), hwx, if_neg (by omega)]
  have HF := Hid.mk hfin
  have hm0 : m = 0 := by rw [h3]; simp [wrongForm] at hwf; rw [hwf]; rfl
  subst hm0
  have hits : its = [] := List.eq_nil_of_length_eq_zero h3.symm
  subst hits
  clear hfin hwx hwf h3 h6 hcell hli h2 H3 H6
  go_enter Try.func21, Try.ntmps21
  go_wp2_with fail
  go_cut [] (fun v => Touch g w v ∧ v.heap[g]? = some (.cells #[.int .i64 (W + wx : Nat)] 48) ∧ v.heap[w.heap.size]? = some (.cells #[.bool false, .slice ba bn bc, .slice ia 0 ic] 25))
  case first =>
    go_region_with (first | (go_at_call 28; refine (weightOf_any false ba _ bc ia 0 ic bs d _ HL.out hbn).mono ?_; rintro e w1 ⟨rfl, hb1⟩; have cg := (hb1.cell (p := ⟨g, 0, none⟩) (block_lt_of_cell (c0 _))).trans (c0 _); have fg := (hb1.frozen (p := ⟨g, 0, none⟩) (block_lt_of_cell (c0 _))).trans (f0 _)))
    all_goals
      go_wp2_with fail
      go_meet
      case rel => exact body_reg HCE.out HWX.out hwle hb1
  case rest =>
    obtain ⟨ht, hc, hx⟩ := hcut
    have hcg : wc.cell? ⟨g, 0, none⟩ = some (.int .i64 (W + wx : Nat)) := by rw [cell_of_row _ _ _ _ _ _ hc]; rfl
    have hx0 : wc.cell? ⟨w.heap.size, 0, none⟩ = some (.bool false) := by rw [cell_of_row _ _ _ _ _ _ hx]; rfl
    have hx1 : wc.cell? ⟨w.heap.size, 1, none⟩ = some (.slice ba bn bc) := by rw [cell_of_row _ _ _ _ _ _ hx]; rfl
    have hx2 : wc.cell? ⟨w.heap.size, 2, none⟩ = some (.slice ia 0 ic) := by rw [cell_of_row _ _ _ _ _ _ hx]; rfl
    have HT := Hid.mk ht
    have HC := Hid.mk hc
    clear ht hc hx
    go_wp2_with fail
    go_loopw [8, 59] (fun q i v => q = .int .i64 bn ∧ i = .int .i64 0 ∧ v = wc) (fun _ i _ => 0)
    case atStart => exact ⟨rfl, rfl, rfl⟩
    case round =>
      obtain ⟨rfl, rfl, rfl⟩ := hrel
      go_wp2_with fail
      go_ret2
      refine ⟨HT.out, .inl ?_⟩
      rw [HF.out, wks_nil]
      refine ⟨rfl, ?_, HC.out⟩
      rw [show szb (T.mk false bs []) = bn from by show bs.length + szs [] = bn; rw [szs_nil, HL.out]; rfl]
      rfl
end Go.Proofs.Ytkbdkenpblcofab

/- What the survey's body answers where something is amiss. -/
import Derived.Test.YtmofehloiiopfaaG01
namespace Go.Proofs.Ytmofehloiiopfaa
open Go.RowKit
set_option linter.unusedVariables false
/-- What body leaves. -/
def BodyPost (t : T) (d W g : Nat) (w : World) : Ending → World → Prop := fun e w' =>
  Touch g w w' ∧ (((wk t d W).2 = 0 ∧ e = .returned (.tuple #[.int .i64 (szb t), .int .i64 0]) ∧ w'.heap[g]? = some (.cells #[.int .i64 ((wk t d W).1 : Nat)] 86)) ∨ ((wk t d W).2 ≠ 0 ∧ e = .returned (.tuple #[.int .i64 0, .int .i64 ((wk t d W).2 : Nat)])))
theorem body_reg {w w1 : World} {g W wx d : Nat} {l : Bool} {bs : List Int} {X : Array Value} (hc : w.heap[g]? = some (.cells #[.int .i64 W] 86)) (hx : wt l bs d = wx) (hle : W + wx ≤ 150000000000000)
    (hb : Below (w.alloc (.cells X 45)).drew.heap.size (w.alloc (.cells X 45)).drew w1) :
    Touch g w (w1.setCell ⟨g, 0, none⟩ (.int .i64 (IntKind.i64.wrap ((W : Int) + (wt l bs d : Nat))))) ∧ (w1.setCell ⟨g, 0, none⟩ (.int .i64 (IntKind.i64.wrap ((W : Int) + (wt l bs d : Nat))))).heap[g]? = some (.cells #[.int .i64 (W + wx : Nat)] 86) ∧
      (w1.setCell ⟨g, 0, none⟩ (.int .i64 (IntKind.i64.wrap ((W : Int) + (wt l bs d : Nat))))).heap[w.heap.size]? = some (.cells X 45) := by
  subst hx
  have hg := lt_of_get hc
  have e : IntKind.i64.wrap ((W : Int) + (wt l bs d : Nat)) = ((W + wt l bs d : Nat) : Int) := by rw [IntKind.wrap_i64]; omega
  have hb2 : Below w.heap.size w w1 := (((Below.refl w.heap.size w).alloc (Nat.le_refl _) (.cells X 45)).drew).trans (hb.mono (by simp))
  have h1 : w1.heap[g]? = some (.cells #[.int .i64 W] 86) := (hb2.block g hg).trans hc
  have h2 : w1.heap[w.heap.size]? = some (.cells X 45) := (hb.block _ (by simp)).trans (heap_alloc_new w _)
  rw [e]
  refine ⟨(Touch.of_below hb2).trans (Touch.setCell _ _ _ _), heap_setCell_same w1 g 0 _ _ _ h1, (heap_setCell_other _ _ _ _ (show w.heap.size ≠ g from by omega)).trans h2⟩
set_option maxHeartbeats 1000000 in
theorem body_bad (l : Bool) (bs : List Int) (its : List T) (x : V) (d W g : Nat) (w0 w : World) (hli : Lies w0 (.mk l bs its) x) (hbel : Below w0.heap.size w0 w) (hg : w0.heap.size ≤ g) (hcell : w.heap[g]? = some (.cells #[.int .i64 W] 86)) (hW : W ≤ 16777215) (hd : d ≤ 8) (hbad : (l = true ∧ d = 8) ∨ wrongForm l bs its = true ∨ 16777215 < W + wt l bs d) :
    Calls Try.prog 61 #[.pointer (some ⟨g, 0, none⟩), .agg #[.bool x.l, .slice x.ba x.bn x.bc, .slice x.ia x.m x.ic], .int .i64 d] w (BodyPost (.mk l bs its) d W g w) := by
  obtain ⟨l', ba, bn, bc, ia, m, ic⟩ := x
  obtain ⟨h1, h2, h3, h4, h5, ⟨h7, h8⟩, h6⟩ := lies_eq.1 hli
  simp only at h1 h2 h3 h4 h5 h6 h7 h8 ⊢
  subst h1
  have hgl := lt_of_get hcell
  have hbn : bn ≤ maxLen := by unfold maxLen; omega
  have hic : ic ≤ 2 ^ 63 - 1 := h5
  have hm : m ≤ 2 ^ 63 - 1 := by omega
  have hbn2 : bn ≤ 2 ^ 63 - 1 := hbn
  have c0 : ∀ o, (w.alloc o).cell? ⟨g, 0, none⟩ = some (.int .i64 W) := cell_alloc (by rw [cell_of_row _ _ _ _ _ _ hcell]; rfl)
  have f0 : ∀ o, (w.alloc o).frozen? ⟨g, 0, none⟩ = false := fun o => frozen_of_row _ _ _ _ _ ((Below.heap_alloc w o _ hgl).trans hcell)
  have HW := wk_eq l' bs its d W
  by_cases hdeep : l' = true ∧ d = 8
  · obtain ⟨rfl, rfl⟩ := hdeep
    have e1 : wk (.mk true bs its) 8 W = (W, 21) := by rw [HW]; rfl
    go_enter Try.func61, Try.ntmps61
    go_wp2_with fail
    go_ret2
    exact ⟨Touch.of_below ((Below.refl _ _).alloc (Nat.le_refl _) _), .inr (by rw [e1]; exact ⟨Nat.succ_ne_zero _, rfl⟩)⟩
  have hdp : (l' && decide (8 ≤ d)) = false := by
    cases l' with
    | false => rfl
    | true => simp at hdeep ⊢; omega
  rw [if_neg (by rw [hdp]; decide)] at HW
  by_cases hwf : wrongForm l' bs its = true
  · rw [if_pos hwf] at HW
    cases l' with
    | true =>
      have hb0 : (0 : Int) < bn := by simp [wrongForm] at hwf; have := h2.l; omega
      have hd8 : ((d : Int) == 8) = false := by simp; simp at hdeep; omega
      go_enter Try.func61, Try.ntmps61
      go_wp2_with fail
      go_ret2
      exact ⟨Touch.of_below ((Below.refl _ _).alloc (Nat.le_refl _) _), .inr (by rw [HW]; exact ⟨Nat.succ_ne_zero _, rfl⟩)⟩
    | false =>
      have hb0 : (0 : Int) < m := by simp [wrongForm] at hwf; omega
      go_enter Try.func61, Try.ntmps61
      go_wp2_with fail
      go_ret2
      exact ⟨Touch.of_below ((Below.refl _ _).alloc (Nat.le_refl _) _), .inr (by rw [HW]; exact ⟨Nat.succ_ne_zero _, rfl⟩)⟩
  rw [if_neg hwf] at HW
  have hwf2 : ((l' = true → bn = 0) ∧ (l' = false → m = 0)) := by
    simp [wrongForm] at hwf
    have := h2.l
    constructor
    · intro hl; have := hwf.1 hl; subst this; simp at *; omega
    · intro hl; have := hwf.2 hl; subst this; simp at *; omega
  have hwt : wt l' bs d ≤ 140737488351232 := by unfold wt; rw [h2.l]; split <;> omega
  have HL := Hid.mk h2.l
  have H3 := Hid.mk h3
  have H6 := Hid.mk h6
  have HWW := Hid.mk HW
  have HWF := Hid.mk hwf2
  have HNW := Hid.mk hwf
  have hd8 : l' = true → ((d : Int) == 8) = false := fun hl => by subst hl; simp; simp at hdeep; omega
  have HD := Hid.mk hd8
  have HCE := Hid.mk hcell
  clear h3 h6 HW hwf2 hwf hd8 hdp hli hcell h2
  obtain ⟨wx, hwx⟩ : ∃ wx, wt l' bs d = wx := ⟨_, rfl⟩
  have HWX := Hid.mk hwx
  rw [hwx] at hwt HWW
  clear hwx
  have hwle : W + wx ≤ 150000000000000 := by omega
  have hlong : 16777215 < W + wx := by
    rcases hbad with h | h | h
    · exact absurd h hdeep
    · exact absurd h HNW.out
    · rw [HWX.out] at h; exact h
  clear hdeep hbad
  · have hl2 : (16777215 : Int) < ((W + wx : Nat) : Int) := by omega
    have hfin : wk (T.mk l' bs its) d W = (W + wx, 20) := by rw [HWW.out, if_pos hlong]
    have HF := Hid.mk hfin
    clear hfin
    cases l' with
    | true =>
      have hb0 : bn = 0 := HWF.out.1 rfl
      subst hb0
      have hd8 := HD.out rfl
      go_enter Try.func61, Try.ntmps61
      go_wp2_with fail
      go_cut [] (fun v => Touch g w v ∧ v.heap[g]? = some (.cells #[.int .i64 (W + wx : Nat)] 86) ∧ v.heap[w.heap.size]? = some (.cells #[.bool true, .slice ba 0 bc, .slice ia m ic] 45))
      case first =>
        go_region_with (first | (go_at_call 74; refine (weightOf_any true ba _ bc ia m ic bs d _ HL.out hbn).mono ?_; rintro e w1 ⟨rfl, hb1⟩; have cg := (hb1.cell (p := ⟨g, 0, none⟩) (block_lt_of_cell (c0 _))).trans (c0 _); have fg := (hb1.frozen (p := ⟨g, 0, none⟩) (block_lt_of_cell (c0 _))).trans (f0 _)))
        all_goals
          go_wp2_with fail
          go_meet
          case rel => exact body_reg HCE.out HWX.out hwle hb1
      case rest =>
        obtain ⟨ht, hc, hx⟩ := hcut
        have hcg : wc.cell? ⟨g, 0, none⟩ = some (.int .i64 (W + wx : Nat)) := by rw [cell_of_row _ _ _ _ _ _ hc]; rfl
        have hx0 : wc.cell? ⟨w.heap.size, 0, none⟩ = some (.bool true) := by rw [cell_of_row _ _ _ _ _ _ hx]; rfl
        have hx1 : wc.cell? ⟨w.heap.size, 1, none⟩ = some (.slice ba 0 bc) := by rw [cell_of_row _ _ _ _ _ _ hx]; rfl
        have hx2 : wc.cell? ⟨w.heap.size, 2, none⟩ = some (.slice ia m ic) := by rw [cell_of_row _ _ _ _ _ _ hx]; rfl
        go_wp2_with fail
        go_ret2
        exact ⟨ht, .inr (by rw [HF.out]; exact ⟨Nat.succ_ne_zero _, rfl⟩)⟩
    | false =>
      have hm0 : m = 0 := HWF.out.2 rfl
      subst hm0
      go_enter Try.func61, Try.ntmps61
      go_wp2_with fail
      go_cut [] (fun v => Touch g w v ∧ v.heap[g]? = some (.cells #[.int .i64 (W + wx : Nat)] 86) ∧ v.heap[w.heap.size]? = some (.cells #[.bool false, .slice ba bn bc, .slice ia 0 ic] 45))
      case first =>
        go_region_with (first | (go_at_call 74; refine (weightOf_any false ba _ bc ia 0 ic bs d _ HL.out hbn).mono ?_; rintro e w1 ⟨rfl, hb1⟩; have cg := (hb1.cell (p := ⟨g, 0, none⟩) (block_lt_of_cell (c0 _))).trans (c0 _); have fg := (hb1.frozen (p := ⟨g, 0, none⟩) (block_lt_of_cell (c0 _))).trans (f0 _)))
        all_goals
          go_wp2_with fail
          go_meet
          case rel => exact body_reg HCE.out HWX.out hwle hb1
      case rest =>
        obtain ⟨ht, hc, hx⟩ := hcut
        have hcg : wc.cell? ⟨g, 0, none⟩ = some (.int .i64 (W + wx : Nat)) := by rw [cell_of_row _ _ _ _ _ _ hc]; rfl
        have hx0 : wc.cell? ⟨w.heap.size, 0, none⟩ = some (.bool false) := by rw [cell_of_row _ _ _ _ _ _ hx]; rfl
        have hx1 : wc.cell? ⟨w.heap.size, 1, none⟩ = some (.slice ba bn bc) := by rw [cell_of_row _ _ _ _ _ _ hx]; rfl
        have hx2 : wc.cell? ⟨w.heap.size, 2, none⟩ = some (.slice ia 0 ic) := by rw [cell_of_row _ _ _ _ _ _ hx]; rfl
        go_wp2_with fail
        go_ret2
        exact ⟨ht, .inr (by rw [HF.out]; exact ⟨Nat.succ_ne_zero _, rfl⟩)⟩
end Go.Proofs.Ytmofehloiiopfaa
/- What the survey's body answers of a text. -/
namespace Go.Proofs.Ytmofehloiiopfaa
open Go.RowKit
set_option linter.unusedVariables false
set_option maxHeartbeats 1000000 in
theorem body_text (bs : List Int) (its : List T) (x : V) (d W g : Nat) (w0 w : World) (hli : Lies w0 (.mk false bs its) x) (hbel : Below w0.heap.size w0 w) (hg : w0.heap.size ≤ g) (hcell : w.heap[g]? = some (.cells #[.int .i64 W] 86)) (hW : W ≤ 16777215) (hd : d ≤ 8)
    (hdeep : ¬ (false = true ∧ d = 8)) (hwf : wrongForm false bs its = false) (hlong : W + wt false bs d ≤ 16777215) :
    Calls Try.prog 61 #[.pointer (some ⟨g, 0, none⟩), .agg #[.bool x.l, .slice x.ba x.bn x.bc, .slice x.ia x.m x.ic], .int .i64 d] w (BodyPost (.mk false bs its) d W g w) := by
  obtain ⟨l', ba, bn, bc, ia, m, ic⟩ := x
  obtain ⟨h1, h2, h3, h4, h5, ⟨h7, h8⟩, h6⟩ := lies_eq.1 hli
  simp only at h1 h2 h3 h4 h5 h6 h7 h8 ⊢
  subst h1
  have hgl := lt_of_get hcell
  have hbn : bn ≤ maxLen := by unfold maxLen; omega
  have hic : ic ≤ 2 ^ 63 - 1 := h5
  have hm : m ≤ 2 ^ 63 - 1 := by omega
  have hbn2 : bn ≤ 2 ^ 63 - 1 := hbn
  have c0 : ∀ o, (w.alloc o).cell? ⟨g, 0, none⟩ = some (.int .i64 W) := cell_alloc (by rw [cell_of_row _ _ _ _ _ _ hcell]; rfl)
  have f0 : ∀ o, (w.alloc o).frozen? ⟨g, 0, none⟩ = false := fun o => frozen_of_row _ _ _ _ _ ((Below.heap_alloc w o _ hgl).trans hcell)
  have HL := Hid.mk h2.l
  have H3 := Hid.mk h3
  have H6 := Hid.mk h6
  have HCE := Hid.mk hcell
  obtain ⟨wx, hwx⟩ : ∃ wx, wt false bs d = wx := ⟨_, rfl⟩
  have HWX := Hid.mk hwx
  rw [hwx] at hlong
  have hwle : W + wx ≤ 150000000000000 := by omega
  have hl2 : ¬ (16777215 : Int) < ((W + wx : Nat) : Int) := by omega
  have hW0 : W + wx ≤ 16777215 := hlong
  have hfin : wk (T.mk false bs its) d W = wks its (d + 1) (W + wx) := by
    rw [wk_eq, if_neg (by simp), if_neg (by rw [hwf]; decide), hwx, if_neg (by omega)]
  have HF := Hid.mk hfin
  have hm0 : m = 0 := by rw [h3]; simp [wrongForm] at hwf; rw [hwf]; rfl
  subst hm0
  have hits : its = [] := List.eq_nil_of_length_eq_zero h3.symm
  subst hits
  clear hfin hwx hwf h3 h6 hcell hli h2 H3 H6
  go_enter Try.func61, Try.ntmps61
  go_wp2_with fail
  go_cut [] (fun v => Touch g w v ∧ v.heap[g]? = some (.cells #[.int .i64 (W + wx : Nat)] 86) ∧ v.heap[w.heap.size]? = some (.cells #[.bool false, .slice ba bn bc, .slice ia 0 ic] 45))
  case first =>
    go_region_with (first | (go_at_call 74; refine (weightOf_any false ba _ bc ia 0 ic bs d _ HL.out hbn).mono ?_; rintro e w1 ⟨rfl, hb1⟩; have cg := (hb1.cell (p := ⟨g, 0, none⟩) (block_lt_of_cell (c0 _))).trans (c0 _); have fg := (hb1.frozen (p := ⟨g, 0, none⟩) (block_lt_of_cell (c0 _))).trans (f0 _)))
    all_goals
      go_wp2_with fail
      go_meet
      case rel => exact body_reg HCE.out HWX.out hwle hb1
  case rest =>
    obtain ⟨ht, hc, hx⟩ := hcut
    have hcg : wc.cell? ⟨g, 0, none⟩ = some (.int .i64 (W + wx : Nat)) := by rw [cell_of_row _ _ _ _ _ _ hc]; rfl
    have hx0 : wc.cell? ⟨w.heap.size, 0, none⟩ = some (.bool false) := by rw [cell_of_row _ _ _ _ _ _ hx]; rfl
    have hx1 : wc.cell? ⟨w.heap.size, 1, none⟩ = some (.slice ba bn bc) := by rw [cell_of_row _ _ _ _ _ _ hx]; rfl
    have hx2 : wc.cell? ⟨w.heap.size, 2, none⟩ = some (.slice ia 0 ic) := by rw [cell_of_row _ _ _ _ _ _ hx]; rfl
    have HT := Hid.mk ht
    have HC := Hid.mk hc
    clear ht hc hx
    go_wp2_with fail
    go_loopw [8, 59] (fun q i v => q = .int .i64 bn ∧ i = .int .i64 0 ∧ v = wc) (fun _ i _ => 0)
    case atStart => exact ⟨rfl, rfl, rfl⟩
    case round =>
      obtain ⟨rfl, rfl, rfl⟩ := hrel
      go_wp2_with fail
      go_ret2
      refine ⟨HT.out, .inl ?_⟩
      rw [HF.out, wks_nil]
      refine ⟨rfl, ?_, HC.out⟩
      rw [show szb (T.mk false bs []) = bn from by show bs.length + szs [] = bn; rw [szs_nil, HL.out]; rfl]
      rfl
end Go.Proofs.Ytmofehloiiopfaa
/- What the survey's body answers of a list. -/
namespace Go.Proofs.Ytmofehloiiopfaa
open Go.RowKit
set_option linter.unusedVariables false
set_option maxHeartbeats 2000000 in
theorem body_list (bs : List Int) (its : List T) (x : V) (d W g : Nat) (w0 w : World) (hli : Lies w0 (.mk true bs its) x) (hbel : Below w0.heap.size w0 w) (hg : w0.heap.size ≤ g) (hcell : w.heap[g]? = some (.cells #[.int .i64 W] 86)) (hW : W ≤ 16777215) (hd : d ≤ 8)
    (hdeep : ¬ (true = true ∧ d = 8)) (hwf : wrongForm true bs its = false) (hlong : W + wt true bs d ≤ 16777215)
    (ih : ∀ t ∈ its, ∀ (x : V) (d W g : Nat) (w0 w : World), Lies w0 t x → Below w0.heap.size w0 w → w0.heap.size ≤ g → w.heap[g]? = some (.cells #[.int .i64 W] 86) → W ≤ 16777215 → d ≤ 8 → Calls Try.prog 61 #[.pointer (some ⟨g, 0, none⟩), .agg #[.bool x.l, .slice x.ba x.bn x.bc, .slice x.ia x.m x.ic], .int .i64 d] w (BodyPost t d W g w)) :
    Calls Try.prog 61 #[.pointer (some ⟨g, 0, none⟩), .agg #[.bool x.l, .slice x.ba x.bn x.bc, .slice x.ia x.m x.ic], .int .i64 d] w (BodyPost (.mk true bs its) d W g w) := by
  obtain ⟨l', ba, bn, bc, ia, m, ic⟩ := x
  obtain ⟨h1, h2, h3, h4, h5, ⟨h7, h8⟩, h6⟩ := lies_eq.1 hli
  simp only at h1 h2 h3 h4 h5 h6 h7 h8 ⊢
  subst h1
  have hgl := lt_of_get hcell
  have hbn : bn ≤ maxLen := by unfold maxLen; omega
  have hic : ic ≤ 2 ^ 63 - 1 := h5
  have hm : m ≤ 2 ^ 63 - 1 := by omega
  have hbn2 : bn ≤ 2 ^ 63 - 1 := hbn
  have c0 : ∀ o, (w.alloc o).cell? ⟨g, 0, none⟩ = some (.int .i64 W) := cell_alloc (by rw [cell_of_row _ _ _ _ _ _ hcell]; rfl)
  have f0 : ∀ o, (w.alloc o).frozen? ⟨g, 0, none⟩ = false := fun o => frozen_of_row _ _ _ _ _ ((Below.heap_alloc w o _ hgl).trans hcell)
  have HL := Hid.mk h2.l
  have H3 := Hid.mk h3
  have H6 := Hid.mk h6
  have HCE := Hid.mk hcell
  obtain ⟨wx, hwx⟩ : ∃ wx, wt true bs d = wx := ⟨_, rfl⟩
  have HWX := Hid.mk hwx
  rw [hwx] at hlong
  have hwle : W + wx ≤ 150000000000000 := by omega
  have hl2 : ¬ (16777215 : Int) < ((W + wx : Nat) : Int) := by omega
  have hW0 : W + wx ≤ 16777215 := hlong
  have hfin : wk (T.mk true bs its) d W = wks its (d + 1) (W + wx) := by
    rw [wk_eq, if_neg (by simp at hdeep ⊢; omega), if_neg (by rw [hwf]; decide), hwx, if_neg (by omega)]
  have HF := Hid.mk hfin
  have hb0 : bn = 0 := by rw [← h2.l]; simp [wrongForm] at hwf; rw [hwf]; rfl
  subst hb0
  have hd8 : ((d : Int) == 8) = false := by simp; simp at hdeep; omega
  have hd7 : d + 1 ≤ 8 := by simp at hdeep; omega
  have HI := Hid.mk ih
  clear hfin hwx hwf h3 h6 hcell hli h2 ih hdeep
  go_enter Try.func61, Try.ntmps61
  go_wp2_with fail
  go_cut [] (fun v => Touch g w v ∧ v.heap[g]? = some (.cells #[.int .i64 (W + wx : Nat)] 86) ∧ v.heap[w.heap.size]? = some (.cells #[.bool true, .slice ba 0 bc, .slice ia m ic] 45))
  case first =>
    go_region_with (first | (go_at_call 74; refine (weightOf_any true ba _ bc ia m ic bs d _ HL.out hbn).mono ?_; rintro e w1 ⟨rfl, hb1⟩; have cg := (hb1.cell (p := ⟨g, 0, none⟩) (block_lt_of_cell (c0 _))).trans (c0 _); have fg := (hb1.frozen (p := ⟨g, 0, none⟩) (block_lt_of_cell (c0 _))).trans (f0 _)))
    all_goals
      go_wp2_with fail
      go_meet
      case rel => exact body_reg HCE.out HWX.out hwle hb1
  case rest =>
    obtain ⟨ht, hc, hx⟩ := hcut
    have hcg : wc.cell? ⟨g, 0, none⟩ = some (.int .i64 (W + wx : Nat)) := by rw [cell_of_row _ _ _ _ _ _ hc]; rfl
    have hx0 : wc.cell? ⟨w.heap.size, 0, none⟩ = some (.bool true) := by rw [cell_of_row _ _ _ _ _ _ hx]; rfl
    have hx1 : wc.cell? ⟨w.heap.size, 1, none⟩ = some (.slice ba 0 bc) := by rw [cell_of_row _ _ _ _ _ _ hx]; rfl
    have hx2 : wc.cell? ⟨w.heap.size, 2, none⟩ = some (.slice ia m ic) := by rw [cell_of_row _ _ _ _ _ _ hx]; rfl
    have HT := Hid.mk ht
    have HC := Hid.mk hc
    clear ht hc hx
    go_wp2_with fail
    go_loopw [8, 59] (fun q i v => ∃ k W' : Nat, k ≤ m ∧ i = .int .i64 k ∧ q = .int .i64 (szs (its.take k) : Nat) ∧ wks (its.take k) (d + 1) (W + wx) = (W', 0) ∧ Touch g w v ∧ v.heap[g]? = some (.cells #[.int .i64 W'] 86)) (fun _ i _ => m - (intOf i).toNat)
    case atStart => exact ⟨0, W + wx, by omega, rfl, by rw [List.take_zero, szs_nil]; rfl, by rw [List.take_zero, wks_nil], HT.out, HC.out⟩
    case round =>
      obtain ⟨k, W', hk, rfl, rfl, hws, ht, hc⟩ := hrel
      have HWS := Hid.mk hws
      obtain ⟨hW1, hW2, hW3⟩ := wks_bound (Nat.succ_pos _) hW0 hws
      generalize hq : szs (its.take k) = q at hW3
      have HQ := Hid.mk hq
      clear hws hq
      by_cases hlt : k < m
      · have hk1 : k < its.length := by have := H3.out; omega
        obtain ⟨gi, off, y, hat⟩ := liesAll_at H6.out k its[k] (List.getElem?_eq_getElem hk1)
        rw [Nat.zero_add] at hat
        have hb : Below w0.heap.size w0 wr := Touch.below hbel ht hg (by have := hbel.size; omega)
        obtain ⟨rfl, a0, a1, a2, ali⟩ := hat
        have c0' := (hb.cell (p := ⟨gi, off + k * 3, none⟩) (block_lt_of_cell a0)).trans a0
        have c1' := (hb.cell (p := ⟨gi, off + k * 3 + 1, none⟩) (block_lt_of_cell a1)).trans a1
        have c2' := (hb.cell (p := ⟨gi, off + k * 3 + 2, none⟩) (block_lt_of_cell a2)).trans a2
        clear a0 a1 a2
        have ca0 := cell_alloc c0'
        have ca1 := cell_alloc c1'
        have ca2 := cell_alloc c2'
        have hki : (k : Int) < m := by omega
        obtain ⟨u, hu⟩ : ∃ u, its[k] = u := ⟨_, rfl⟩
        have hgt : its[k]? = some u := by rw [← hu]; exact List.getElem?_eq_getElem hk1
        have HGT := Hid.mk hgt
        have HIU := Hid.mk (HI.out u (by rw [← hu]; exact List.getElem_mem hk1) y (d + 1) W' g w0)
        rw [hu] at ali
        have ALI := Hid.mk ali
        have hgr := lt_of_get hc
        have HB := Hid.mk hb
        have HT2 := Hid.mk ht
        have HC2 := Hid.mk hc
        obtain ⟨ul, ub, ui⟩ := u
        have y1 := (lies_eq.1 ali).1
        have y2 := (lies_eq.1 ali).2.1
        have hyl : Hid (y.l = ul) := y1
        have AG := Hid.mk y2
        clear hgt hu ali y1 y2 hb ht hc
        go_wp2_with fail
        rw [show ((d : Int) + 1) = ((d + 1 : Nat) : Int) from by omega]
        have hcal := HIU.out (wr.alloc (.cells #[.bool y.l, .slice y.ba y.bn y.bc, .slice y.ia y.m y.ic] 45)) ALI.out (HB.out.alloc HB.out.size _) hg ((Below.heap_alloc _ _ _ hgr).trans HC2.out) hW2 hd7
        refine hcal.mono ?_
        clear hcal
        rintro e w1 ⟨ht1, hres⟩
        have ht2 : Touch g w w1 := (HT2.out.trans (Touch.of_below ((Below.refl _ _).alloc (Nat.le_refl _) _))).trans ht1
        have hb1 : Below w0.heap.size w0 w1 := Touch.below hbel ht2 hg (by have := hbel.size; omega)
        have hyb : w1.heap[wr.heap.size]? = some (.cells #[.bool y.l, .slice y.ba y.bn y.bc, .slice y.ia y.m y.ic] 45) := (ht1.block _ (by simp) (by omega)).trans (heap_alloc_new _ _)
        rcases hres with ⟨hr0, rfl, hr2⟩ | ⟨hr0, rfl⟩
        · have y0 : w1.cell? ⟨wr.heap.size, 0, none⟩ = some (.bool y.l) := by rw [cell_of_row _ _ _ _ _ _ hyb]; rfl
          have y1 : w1.cell? ⟨wr.heap.size, 1, none⟩ = some (.slice y.ba y.bn y.bc) := by rw [cell_of_row _ _ _ _ _ _ hyb]; rfl
          have y2 : w1.cell? ⟨wr.heap.size, 2, none⟩ = some (.slice y.ia y.m y.ic) := by rw [cell_of_row _ _ _ _ _ _ hyb]; rfl
          obtain ⟨z1, z2, z3⟩ := wk_bound (Nat.succ_pos _) hW2 hr0
          have HM := Hid.mk (wks_more HGT.out HWS.out hr0)
          have hsz : sz (T.mk ul ub ui) = szOf ul ub (szb (T.mk ul ub ui)) := sz_szb _
          have hge := szOf_ge ul ub (szb (T.mk ul ub ui))
          have HSM := Hid.mk (szs_more HGT.out)
          rw [hsz] at z3 HSM
          rw [HQ.out] at HSM
          have HR2 := Hid.mk hr2
          obtain ⟨W'', hW''⟩ : ∃ W'', (wk (T.mk ul ub ui) (d + 1) W').1 = W'' := ⟨_, rfl⟩
          obtain ⟨nn, hnn0⟩ : ∃ nn, szb (T.mk ul ub ui) = nn := ⟨_, rfl⟩
          rw [hW''] at z1 z2 z3 HM HR2
          rw [hnn0] at z3 hge HSM ⊢
          clear hW'' hnn0
          have hnn : nn < 1000000000 := by omega
          have HT3 := Hid.mk ht2
          clear hr0 hsz hr2 hyb ht1 ht2
          go_wp2_with fail
          refine (sizeOf_any y.l y.ba y.bn y.bc y.ia y.m y.ic ub nn _ (AG.out.at hb1) hnn).mono ?_
          rintro e w2 ⟨rfl, hb2⟩
          rw [hyl.out]
          obtain ⟨zz, hzz⟩ : ∃ zz, szOf ul ub nn = zz := ⟨_, rfl⟩
          rw [hzz] at z3 hge HSM ⊢
          clear hzz
          have hq9 : q + zz < 9000000000 := by omega
          go_wp2_with fail
          refine ⟨⟨k + 1, W'', by omega, by simp, ?_, HM.out, HT3.out.trans (Touch.of_below hb2), Below.row hb2 HR2.out⟩, ?_⟩
          · rw [HSM.out]; simp
          · simp [intOf]; omega
        · have HFL := Hid.mk (wks_fail HGT.out HWS.out hr0)
          have HR0 := Hid.mk hr0
          obtain ⟨er, her⟩ : ∃ er, (wk (T.mk ul ub ui) (d + 1) W').2 = er := ⟨_, rfl⟩
          have hee : ((er : Int) != 0) = true := by rw [bne_iff_ne]; rw [her] at hr0; omega
          have HER := Hid.mk her
          have HT3 := Hid.mk ht2
          rw [her]
          clear hr0 hyb ht1 ht2 her
          go_wp2_with fail
          go_ret2
          refine ⟨HT3.out, .inr ?_⟩
          rw [HF.out, HFL.out, HER.out]
          exact ⟨by rw [← HER.out]; exact HR0.out, rfl⟩
      · have hkm : k = m := by omega
        subst hkm
        have hki : ¬ (k : Int) < k := by omega
        have ht2 : its.take k = its := List.take_of_length_le (by have := H3.out; omega)
        have hw2 := HWS.out
        have hq2 := HQ.out
        rw [ht2] at hw2 hq2
        have HW2 := Hid.mk hw2
        have HQ2 := Hid.mk hq2
        have HT3 := Hid.mk ht
        have HC3 := Hid.mk hc
        clear ht2 hw2 hq2 ht hc
        go_wp2_with fail
        go_ret2
        refine ⟨HT3.out, .inl ?_⟩
        rw [HF.out, HW2.out]
        refine ⟨rfl, ?_, HC3.out⟩
        rw [show szb (T.mk true bs its) = q from by show bs.length + szs its = q; rw [HQ2.out, HL.out]; exact Nat.zero_add _]
        rfl
end Go.Proofs.Ytmofehloiiopfaa

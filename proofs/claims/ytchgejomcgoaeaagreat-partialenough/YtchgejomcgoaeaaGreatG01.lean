/- Items in memory; what bare, weightOf and sizeOf answer. -/
import Derived.Test.YtchgejomcgoaeaaGreatG00
set_option linter.unusedVariables false
namespace Go.Proofs.YtchgejomcgoaeaaGreat
open Go.RowKit
variable {w : World} {a : Option Addr} {k g : Nat}
structure V where
  l : Bool
  ba : Option Addr
  bn : Nat
  bc : Nat
  ia : Option Addr
  m : Nat
  ic : Nat
def V.v (x : V) : Value := .agg #[.bool x.l, .slice x.ba x.bn x.bc, .slice x.ia x.m x.ic]
mutual
def Lies (w : World) : T → V → Prop
  | .mk l bs its, x => x.l = l ∧ Ag w x.ba x.bn x.bc bs ∧ x.m = its.length ∧ x.m ≤ x.ic ∧ x.ic ≤ maxLen ∧ (x.bn ≤ 140737488351232 ∧ x.m ≤ 140737488351232) ∧ LiesAll w its x.ia 0
def LiesAll (w : World) : List T → Option Addr → Nat → Prop
  | [], _, _ => True
  | t :: r, a, k => (∃ g off y, a = some ⟨g, off, none⟩ ∧ w.cell? ⟨g, off + k * 3, none⟩ = some (.bool y.l) ∧ w.cell? ⟨g, off + k * 3 + 1, none⟩ = some (.slice y.ba y.bn y.bc) ∧ w.cell? ⟨g, off + k * 3 + 2, none⟩ = some (.slice y.ia y.m y.ic) ∧ Lies w t y) ∧ LiesAll w r a (k + 1)
end
theorem lies_eq {l : Bool} {bs : List Int} {its : List T} {x : V} : Lies w (.mk l bs its) x ↔ (x.l = l ∧ Ag w x.ba x.bn x.bc bs ∧ x.m = its.length ∧ x.m ≤ x.ic ∧ x.ic ≤ maxLen ∧ (x.bn ≤ 140737488351232 ∧ x.m ≤ 140737488351232) ∧ LiesAll w its x.ia 0) := by rw [Lies]
theorem liesAll_cons {t : T} {r : List T} : LiesAll w (t :: r) a k ↔ ((∃ g off y, a = some ⟨g, off, none⟩ ∧ w.cell? ⟨g, off + k * 3, none⟩ = some (.bool y.l) ∧ w.cell? ⟨g, off + k * 3 + 1, none⟩ = some (.slice y.ba y.bn y.bc) ∧ w.cell? ⟨g, off + k * 3 + 2, none⟩ = some (.slice y.ia y.m y.ic) ∧ Lies w t y) ∧ LiesAll w r a (k + 1)) := by rw [LiesAll]
theorem Zcs : LiesAll w [] a k := by rw [LiesAll]; trivial
structure At (w : World) (a : Option Addr) (k : Nat) (t : T) (g off : Nat) (y : V) : Prop where
  ha : a = some ⟨g, off, none⟩
  c0 : w.cell? ⟨g, off + k * 3, none⟩ = some (.bool y.l)
  c1 : w.cell? ⟨g, off + k * 3 + 1, none⟩ = some (.slice y.ba y.bn y.bc)
  c2 : w.cell? ⟨g, off + k * 3 + 2, none⟩ = some (.slice y.ia y.m y.ic)
  li : Lies w t y
theorem Zd2 {w : World} {a : Option Addr} : ∀ {its : List T} {k : Nat}, LiesAll w its a k → ∀ i, ∀ t, its[i]? = some t → ∃ g off y, At w a (k + i) t g off y
  | [], k, _, i, t, h => by simp at h
  | t :: r, k, hl, i, u, h => by
    obtain ⟨⟨g, off, y, h1, h2, h3, h4, h5⟩, hr⟩ := liesAll_cons.1 hl
    cases i with
    | zero =>
      simp at h
      subst h
      exact ⟨g, off, y, h1, h2, h3, h4, h5⟩
    | succ i =>
      simp at h
      obtain ⟨g', off', y', h'⟩ := Zd2 hr i u h
      rw [show k + 1 + i = k + (i + 1) from by omega] at h'
      exact ⟨g', off', y', h'⟩
theorem Zcq {w' : World} (hb : Below w.heap.size w w') : ∀ t, ∀ x, Lies w t x → Lies w' t x := by
  refine T.ind fun l bs its ih x h => ?_
  obtain ⟨h1, h2, h3, h4, h5, h7, h6⟩ := lies_eq.1 h
  refine lies_eq.2 ⟨h1, h2.at hb, h3, h4, h5, h7, ?_⟩
  clear h1 h2 h3 h4 h5 h7 h
  generalize x.ia = a at h6
  generalize 0 = k at h6
  induction its generalizing k with
  | nil => exact Zcs
  | cons t r ihr =>
    obtain ⟨⟨g, off, y, h1, h2, h3, h4, h5⟩, hr⟩ := liesAll_cons.1 h6
    refine liesAll_cons.2 ⟨⟨g, off, y, h1, ?_, ?_, ?_, ih t (List.mem_cons_self ..) y h5⟩, ihr (fun u hu => ih u (List.mem_cons_of_mem _ hu)) _ hr⟩
    · exact (hb.cell (p := ⟨g, off + k * 3, none⟩) (block_lt_of_cell h2)).trans h2
    · exact (hb.cell (p := ⟨g, off + k * 3 + 1, none⟩) (block_lt_of_cell h3)).trans h3
    · exact (hb.cell (p := ⟨g, off + k * 3 + 2, none⟩) (block_lt_of_cell h4)).trans h4
theorem Zsx : ∀ t, ∀ x, Lies w t x → byt t := by
  refine T.ind fun l bs its ih x h => ?_
  obtain ⟨h1, h2, h3, h4, h5, h7, h6⟩ := lies_eq.1 h
  refine (Zuf l bs its).2 ⟨h2.b, ?_⟩
  clear h1 h2 h3 h4 h5 h7 h
  generalize x.ia = a at h6
  generalize 0 = k at h6
  induction its generalizing k with
  | nil => rw [byts]; trivial
  | cons t r ihr =>
    obtain ⟨⟨g, off, y, h1, h2, h3, h4, h5⟩, hr⟩ := liesAll_cons.1 h6
    exact (Zkf t r).2 ⟨ih t (List.mem_cons_self ..) y h5, ihr (fun u hu => ih u (List.mem_cons_of_mem _ hu)) _ hr⟩
theorem ag_head {n c : Nat} {bs : List Int} (h : Ag w a n c bs) (h1 : 0 < n) : ∃ g off, a = some ⟨g, off, none⟩ ∧ n ≤ c ∧ c ≤ maxLen ∧ ∀ j, j < n → w.cell? ⟨g, off + j, none⟩ = some (.int .u8 (bs.getD j 0)) := by
  rcases h.i with ⟨h0, _⟩ | ⟨g, off, h2, h3, h4, h5, h6, h7⟩
  · omega
  · exact ⟨g, off, h2, h5, h6, fun j hj => h7 j (by omega)⟩
theorem cell_alloc {off : Nat} {v : Value} (h : w.cell? ⟨g, off, none⟩ = some v) : ∀ o, (w.alloc o).cell? ⟨g, off, none⟩ = some v := fun o => (World.cell?_of_block (w := w) (Below.heap_alloc w _ _ (block_lt_of_cell h))).trans h
set_option maxHeartbeats 400000 in
theorem Zmz (l : Bool) (ba : Option Addr) (bn bc : Nat) (ia : Option Addr) (m ic : Nat) (bs : List Int) (w : World) (h : Ag w ba bn bc bs) :
    Calls Tryz.prog 92 #[.agg #[.bool l, .slice ba bn bc, .slice ia m ic]] w fun e w' => e = .returned (.bool (bare l bs)) ∧ Below w.heap.size w w' := by
  cases l with
  | true =>
    go_enter Tryz.func92, Tryz.ntmps92
    go_wp2_with fail
    go_ret
    exact ⟨by simp [bare], (Below.refl _ _).alloc (Nat.le_refl _) _⟩
  | false =>
    by_cases h1 : bn = 1
    · subst h1
      obtain ⟨g, off, rfl, hc1, hc2, hc⟩ := ag_head h (by omega)
      have hc := hc 0 (by omega)
      have hl := h.l
      match bs, hl with
      | [x], _ =>
        simp at hc
        have hx := h.b x (by simp)
        have hc2 := cell_alloc hc
        clear h
        go_enter Tryz.func92, Tryz.ntmps92
        go_wp2_with fail
        go_ret
        exact ⟨by simp [bare], (Below.refl _ _).alloc (Nat.le_refl _) _⟩
    · have hl := h.l
      have hb : (bn == 1) = false := by simp [h1]
      have hbi : ((bn : Int) == 1) = false := by simp; omega
      clear h
      go_enter Tryz.func92, Tryz.ntmps92
      go_wp2_with fail
      go_ret
      exact ⟨by simp [bare, hl, h1], (Below.refl _ _).alloc (Nat.le_refl _) _⟩
set_option maxHeartbeats 400000 in
theorem Zcw (l : Bool) (ba : Option Addr) (bn bc : Nat) (ia : Option Addr) (m ic : Nat) (bs : List Int) (d : Nat) (w : World) (hl : bs.length = bn) (hn : bn ≤ maxLen) :
    Calls Tryz.prog 116 #[.agg #[.bool l, .slice ba bn bc, .slice ia m ic], .int .i64 d] w fun e w' => e = .returned (.int .i64 (wt l bs d : Nat)) ∧ Below w.heap.size w w' := by
  unfold maxLen at hn
  cases l with
  | true =>
    by_cases hd : d = 0
    · subst hd
      go_enter Tryz.func116, Tryz.ntmps116
      go_wp2_with fail
      go_ret
      exact ⟨by simp [wt], (Below.refl _ _).alloc (Nat.le_refl _) _⟩
    · have hd2 : ((d : Int) == 0) = false := by simp; omega
      go_enter Tryz.func116, Tryz.ntmps116
      go_wp2_with fail
      all_goals
        go_ret
        refine ⟨?_, (Below.refl _ _).alloc (Nat.le_refl _) _⟩
        simp [wt, hd, hl]
        omega
  | false =>
    go_enter Tryz.func116, Tryz.ntmps116
    go_wp2_with fail
    all_goals
      go_ret
      refine ⟨?_, (Below.refl _ _).alloc (Nat.le_refl _) _⟩
      simp [wt, hl]
      omega
set_option maxHeartbeats 400000 in
theorem Zhp (l : Bool) (ba : Option Addr) (bn bc : Nat) (ia : Option Addr) (m ic : Nat) (bs : List Int) (n : Nat) (w : World) (h : Ag w ba bn bc bs) (hn : n < 1000000000) :
    Calls Tryz.prog 91 #[.agg #[.bool l, .slice ba bn bc, .slice ia m ic], .int .i64 n] w fun e w' => e = .returned (.int .i64 (szOf l bs n : Nat)) ∧ Below w.heap.size w w' := by
  have HS : Hid (szOf l bs n = if bare l bs then n else 1 + n + (if 55 < n then nb n else 0)) := rfl
  generalize szOf l bs n = r at HS ⊢
  go_enter Tryz.func91, Tryz.ntmps91
  go_wp2_with fail
  refine (Zmz l ba bn bc ia m ic bs _ (h.at ((Below.refl _ _).alloc (Nat.le_refl _) _))).mono ?_
  rintro e w1 ⟨rfl, hb⟩
  have hb2 := ((Below.refl w.heap.size w).alloc (Nat.le_refl _) (.cells #[.bool l, .slice ba bn bc, .slice ia m ic] 76)).trans (hb.mono (by simp))
  clear hb h
  by_cases hbr : bare l bs = true
  · have HR := HS.out
    rw [if_pos hbr] at HR
    rw [hbr]
    subst HR
    go_wp2_with fail
    go_ret
    exact ⟨rfl, hb2⟩
  · have HR := HS.out
    have hbr2 : bare l bs = false := by simpa using hbr
    rw [if_neg hbr] at HR
    rw [hbr2]
    by_cases hn5 : 55 < n
    · rw [if_pos hn5] at HR
      have hn6 : (55 : Int) < n := by omega
      have HH := Hid.mk HR
      clear HR HS
      go_wp2_with fail
      go_loop [5, 6] (fun s q => ∃ sn qn : Nat, s = .int .i64 sn ∧ q = .int .i64 qn ∧ sn + nb qn = r ∧ qn < 1000000000 ∧ r < 1000000010) (fun s q => (intOf q).toNat)
      case atStart => exact ⟨1 + n, n, by simp, rfl, by rw [HH.out], hn, by rw [HH.out]; have := Zx0 (n := n) (by omega); omega⟩
      case round =>
        obtain ⟨sn, qn, rfl, rfl, hs, hq, hr⟩ := hrel
        have HS := Hid.mk hs
        clear hs
        by_cases h0 : qn = 0
        · subst h0
          go_wp2_with fail
          go_ret
          have := HS.out
          rw [Zfa] at this
          exact ⟨by rw [← this]; rfl, hb2⟩
        · have hq0 : (0 : Int) < qn := by omega
          have hsn : sn < 1000000010 := by have := HS.out; omega
          go_wp2_with fail
          go_round
          case rel => exact ⟨sn + 1, qn / 256, by simp, by simp, by have := HS.out; rw [Zfl (by omega)] at this; omega, by omega, hr⟩
          case measure => simp [intOf]; omega
    · rw [if_neg hn5] at HR
      have hn6 : ¬ (55 : Int) < n := by omega
      subst HR
      go_wp2_with fail
      go_ret
      exact ⟨by simp, hb2⟩
def BodyPost (t : T) (d W g : Nat) (w : World) : Ending → World → Prop := fun e w' =>
  Touch g w w' ∧ (((wk t d W).2 = 0 ∧ e = .returned (.tuple #[.int .i64 (szb t), .int .i64 0]) ∧ w'.heap[g]? = some (.cells #[.int .i64 ((wk t d W).1 : Nat)] 150)) ∨ ((wk t d W).2 ≠ 0 ∧ e = .returned (.tuple #[.int .i64 0, .int .i64 ((wk t d W).2 : Nat)])))
theorem Zf2 {w1 : World} {W wx d : Nat} {l : Bool} {bs : List Int} {X : Array Value} (hc : w.heap[g]? = some (.cells #[.int .i64 W] 150)) (hx : wt l bs d = wx) (hle : W + wx ≤ 150000000000000)
    (hb : Below (w.alloc (.cells X 76)).drew.heap.size (w.alloc (.cells X 76)).drew w1) :
    Touch g w (w1.setCell ⟨g, 0, none⟩ (.int .i64 (IntKind.i64.wrap ((W : Int) + (wt l bs d : Nat))))) ∧ (w1.setCell ⟨g, 0, none⟩ (.int .i64 (IntKind.i64.wrap ((W : Int) + (wt l bs d : Nat))))).heap[g]? = some (.cells #[.int .i64 (W + wx : Nat)] 150) ∧
      (w1.setCell ⟨g, 0, none⟩ (.int .i64 (IntKind.i64.wrap ((W : Int) + (wt l bs d : Nat))))).heap[w.heap.size]? = some (.cells X 76) := by
  subst hx
  have hg := lt_of_get hc
  have e : IntKind.i64.wrap ((W : Int) + (wt l bs d : Nat)) = ((W + wt l bs d : Nat) : Int) := by rw [IntKind.wrap_i64]; omega
  have hb2 : Below w.heap.size w w1 := (((Below.refl w.heap.size w).alloc (Nat.le_refl _) (.cells X 76)).drew).trans (hb.mono (by simp))
  have h1 : w1.heap[g]? = some (.cells #[.int .i64 W] 150) := (hb2.block g hg).trans hc
  have h2 : w1.heap[w.heap.size]? = some (.cells X 76) := (hb.block _ (by simp)).trans (heap_alloc_new w _)
  rw [e]
  refine ⟨(Touch.of_below hb2).trans (Touch.setCell _ _ _ _), heap_setCell_same w1 g 0 _ _ _ h1, (heap_setCell_other _ _ _ _ (show w.heap.size ≠ g from by omega)).trans h2⟩
set_option maxHeartbeats 1000000 in
theorem Zti (l : Bool) (bs : List Int) (its : List T) (x : V) (d W g : Nat) (w0 w : World) (hli : Lies w0 (.mk l bs its) x) (hbel : Below w0.heap.size w0 w) (hg : w0.heap.size ≤ g) (hcell : w.heap[g]? = some (.cells #[.int .i64 W] 150)) (hW : W ≤ 16777215) (hd : d ≤ 8) (hbad : (l = true ∧ d = 8) ∨ wrongForm l bs its = true ∨ 16777215 < W + wt l bs d) :
    Calls Tryz.prog 90 #[.pointer (some ⟨g, 0, none⟩), .agg #[.bool x.l, .slice x.ba x.bn x.bc, .slice x.ia x.m x.ic], .int .i64 d] w (BodyPost (.mk l bs its) d W g w) := by
  obtain ⟨l', ba, bn, bc, ia, m, ic⟩ := x
  obtain ⟨h1, h2, h3, h4, h5, ⟨h7, h8⟩, h6⟩ := lies_eq.1 hli
  simp only at h1 h2 h3 h4 h5 h6 h7 h8 ⊢
  subst h1
  have hgl := lt_of_get hcell
  have hbn : bn ≤ maxLen := by unfold maxLen; omega
  have hic : ic ≤ 2 ^ 63 - 1 := h5
  have hm : m ≤ 2 ^ 63 - 1 := by omega
  have hbn2 : bn ≤ 2 ^ 63 - 1 := hbn
  have c0 : ∀ o, (w.alloc o).cell? ⟨g, 0, none⟩ = some (.int .i64 W) := cell_alloc (by rw [cell_of_row _ _ _ _ _ _ hcell]; rfl)
  have f0 : ∀ o, (w.alloc o).frozen? ⟨g, 0, none⟩ = false := fun o => frozen_of_row _ _ _ _ _ ((Below.heap_alloc w o _ hgl).trans hcell)
  have HW := Zi9 l' bs its d W
  by_cases hdeep : l' = true ∧ d = 8
  · obtain ⟨rfl, rfl⟩ := hdeep
    have e1 : wk (.mk true bs its) 8 W = (W, 21) := by rw [HW]; rfl
    go_enter Tryz.func90, Tryz.ntmps90
    go_wp2_with fail
    go_ret2
    exact ⟨Touch.of_below ((Below.refl _ _).alloc (Nat.le_refl _) _), .inr (by rw [e1]; exact ⟨Nat.succ_ne_zero _, rfl⟩)⟩
  have hdp : (l' && decide (8 ≤ d)) = false := by
    cases l' with
    | false => rfl
    | true => simp at hdeep ⊢; omega
  rw [if_neg (by rw [hdp]; decide)] at HW
  by_cases hwf : wrongForm l' bs its = true
  · rw [if_pos hwf] at HW
    cases l' with
    | true =>
      have hb0 : (0 : Int) < bn := by simp [wrongForm] at hwf; have := h2.l; omega
      have hd8 : ((d : Int) == 8) = false := by simp; simp at hdeep; omega
      go_enter Tryz.func90, Tryz.ntmps90
      go_wp2_with fail
      go_ret2
      exact ⟨Touch.of_below ((Below.refl _ _).alloc (Nat.le_refl _) _), .inr (by rw [HW]; exact ⟨Nat.succ_ne_zero _, rfl⟩)⟩
    | false =>
      have hb0 : (0 : Int) < m := by simp [wrongForm] at hwf; omega
      go_enter Tryz.func90, Tryz.ntmps90
      go_wp2_with fail
      go_ret2
      exact ⟨Touch.of_below ((Below.refl _ _).alloc (Nat.le_refl _) _), .inr (by rw [HW]; exact ⟨Nat.succ_ne_zero _, rfl⟩)⟩
  rw [if_neg hwf] at HW
  have hwf2 : ((l' = true → bn = 0) ∧ (l' = false → m = 0)) := by
    simp [wrongForm] at hwf
    have := h2.l
    constructor
    · intro hl; have := hwf.1 hl; subst this; simp at *; omega
    · intro hl; have := hwf.2 hl; subst this; simp at *; omega
  have hwt : wt l' bs d ≤ 140737488351232 := by unfold wt; rw [h2.l]; split <;> omega
  have HL := Hid.mk h2.l
  have H3 := Hid.mk h3
  have H6 := Hid.mk h6
  have HWW := Hid.mk HW
  have HWF := Hid.mk hwf2
  have HNW := Hid.mk hwf
  have hd8 : l' = true → ((d : Int) == 8) = false := fun hl => by subst hl; simp; simp at hdeep; omega
  have HD := Hid.mk hd8
  have HCE := Hid.mk hcell
  clear h3 h6 HW hwf2 hwf hd8 hdp hli hcell h2
  obtain ⟨wx, hwx⟩ : ∃ wx, wt l' bs d = wx := ⟨_, rfl⟩
  have HWX := Hid.mk hwx
  rw [hwx] at hwt HWW
  clear hwx
  have hwle : W + wx ≤ 150000000000000 := by omega
  have hlong : 16777215 < W + wx := by
    rcases hbad with h | h | h
    · exact absurd h hdeep
    · exact absurd h HNW.out
    · rw [HWX.out] at h; exact h
  clear hdeep hbad
  · have hl2 : (16777215 : Int) < ((W + wx : Nat) : Int) := by omega
    have hfin : wk (T.mk l' bs its) d W = (W + wx, 20) := by rw [HWW.out, if_pos hlong]
    have HF := Hid.mk hfin
    clear hfin
    cases l' with
    | true =>
      have hb0 : bn = 0 := HWF.out.1 rfl
      subst hb0
      have hd8 := HD.out rfl
      go_enter Tryz.func90, Tryz.ntmps90
      go_wp2_with fail
      go_cut [] (fun v => Touch g w v ∧ v.heap[g]? = some (.cells #[.int .i64 (W + wx : Nat)] 150) ∧ v.heap[w.heap.size]? = some (.cells #[.bool true, .slice ba 0 bc, .slice ia m ic] 76))
      case first =>
        go_region_with (first | (go_at_call 116; refine (Zcw true ba _ bc ia m ic bs d _ HL.out hbn).mono ?_; rintro e w1 ⟨rfl, hb1⟩; have cg := (hb1.cell (p := ⟨g, 0, none⟩) (block_lt_of_cell (c0 _))).trans (c0 _); have fg := (hb1.frozen (p := ⟨g, 0, none⟩) (block_lt_of_cell (c0 _))).trans (f0 _)))
        all_goals
          go_wp2_with fail
          go_meet
          case rel => exact Zf2 HCE.out HWX.out hwle hb1
      case rest =>
        obtain ⟨ht, hc, hx⟩ := hcut
        have hcg : wc.cell? ⟨g, 0, none⟩ = some (.int .i64 (W + wx : Nat)) := by rw [cell_of_row _ _ _ _ _ _ hc]; rfl
        have hx0 : wc.cell? ⟨w.heap.size, 0, none⟩ = some (.bool true) := by rw [cell_of_row _ _ _ _ _ _ hx]; rfl
        have hx1 : wc.cell? ⟨w.heap.size, 1, none⟩ = some (.slice ba 0 bc) := by rw [cell_of_row _ _ _ _ _ _ hx]; rfl
        have hx2 : wc.cell? ⟨w.heap.size, 2, none⟩ = some (.slice ia m ic) := by rw [cell_of_row _ _ _ _ _ _ hx]; rfl
        go_wp2_with fail
        go_ret2
        exact ⟨ht, .inr (by rw [HF.out]; exact ⟨Nat.succ_ne_zero _, rfl⟩)⟩
    | false =>
      have hm0 : m = 0 := HWF.out.2 rfl
      subst hm0
      go_enter Tryz.func90, Tryz.ntmps90
      go_wp2_with fail
      go_cut [] (fun v => Touch g w v ∧ v.heap[g]? = some (.cells #[.int .i64 (W + wx : Nat)] 150) ∧ v.heap[w.heap.size]? = some (.cells #[.bool false, .slice ba bn bc, .slice ia 0 ic] 76))
      case first =>
        go_region_with (first | (go_at_call 116; refine (Zcw false ba _ bc ia 0 ic bs d _ HL.out hbn).mono ?_; rintro e w1 ⟨rfl, hb1⟩; have cg := (hb1.cell (p := ⟨g, 0, none⟩) (block_lt_of_cell (c0 _))).trans (c0 _); have fg := (hb1.frozen (p := ⟨g, 0, none⟩) (block_lt_of_cell (c0 _))).trans (f0 _)))
        all_goals
          go_wp2_with fail
          go_meet
          case rel => exact Zf2 HCE.out HWX.out hwle hb1
      case rest =>
        obtain ⟨ht, hc, hx⟩ := hcut
        have hcg : wc.cell? ⟨g, 0, none⟩ = some (.int .i64 (W + wx : Nat)) := by rw [cell_of_row _ _ _ _ _ _ hc]; rfl
        have hx0 : wc.cell? ⟨w.heap.size, 0, none⟩ = some (.bool false) := by rw [cell_of_row _ _ _ _ _ _ hx]; rfl
        have hx1 : wc.cell? ⟨w.heap.size, 1, none⟩ = some (.slice ba bn bc) := by rw [cell_of_row _ _ _ _ _ _ hx]; rfl
        have hx2 : wc.cell? ⟨w.heap.size, 2, none⟩ = some (.slice ia 0 ic) := by rw [cell_of_row _ _ _ _ _ _ hx]; rfl
        go_wp2_with fail
        go_ret2
        exact ⟨ht, .inr (by rw [HF.out]; exact ⟨Nat.succ_ne_zero _, rfl⟩)⟩
end Go.Proofs.YtchgejomcgoaeaaGreat

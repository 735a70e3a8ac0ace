/- What the survey's body answers of a text. -/
import Derived.Test.YtchgejomcgoaeaaGreatG01
set_option linter.unusedVariables false
namespace Go.Proofs.YtchgejomcgoaeaaGreat
open Go.RowKit
set_option maxHeartbeats 1000000 in
theorem Zq1 (bs : List Int) (its : List T) (x : V) (d W g : Nat) (w0 w : World) (hli : Lies w0 (.mk false bs its) x) (hbel : Below w0.heap.size w0 w) (hg : w0.heap.size ≤ g) (hcell : w.heap[g]? = some (.cells #[.int .i64 W] 150)) (hW : W ≤ 16777215) (hd : d ≤ 8)
    (hdeep : ¬ (false = true ∧ d = 8)) (hwf : wrongForm false bs its = false) (hlong : W + wt false bs d ≤ 16777215) :
    Calls Tryz.prog 90 #[.pointer (some ⟨g, 0, none⟩), .agg #[.bool x.l, .slice x.ba x.bn x.bc, .slice x.ia x.m x.ic], .int .i64 d] w (BodyPost (.mk false bs its) d W g w) := by
  obtain ⟨l', ba, bn, bc, ia, m, ic⟩ := x
  obtain ⟨h1, h2, h3, h4, h5, ⟨h7, h8⟩, h6⟩ := lies_eq.1 hli
  simp only at h1 h2 h3 h4 h5 h6 h7 h8 ⊢
  subst h1
  have hgl := lt_of_get hcell
  have hbn : bn ≤ maxLen := by unfold maxLen; omega
  have hic : ic ≤ 2 ^ 63 - 1 := h5
  have hm : m ≤ 2 ^ 63 - 1 := by omega
  have hbn2 : bn ≤ 2 ^ 63 - 1 := hbn
  have c0 : ∀ o, (w.alloc o).cell? ⟨g, 0, none⟩ = some (.int .i64 W) := cell_alloc (by rw [cell_of_row _ _ _ _ _ _ hcell]; rfl)
  have f0 : ∀ o, (w.alloc o).frozen? ⟨g, 0, none⟩ = false := fun o => frozen_of_row _ _ _ _ _ ((Below.heap_alloc w o _ hgl).trans hcell)
  have HL := Hid.mk h2.l
  have H3 := Hid.mk h3
  have H6 := Hid.mk h6
  have HCE := Hid.mk hcell
  obtain ⟨wx, hwx⟩ : ∃ wx, wt false bs d = wx := ⟨_, rfl⟩
  have HWX := Hid.mk hwx
  rw [hwx] at hlong
  have hwle : W + wx ≤ 150000000000000 := by omega
  have hl2 : ¬ (16777215 : Int) < ((W + wx : Nat) : Int) := by omega
  have hW0 : W + wx ≤ 16777215 := hlong
  have hfin : wk (T.mk false bs its) d W = wks its (d + 1) (W + wx) := by
    rw [Zi9, if_neg (by simp), if_neg (by rw [hwf]; decide), hwx, if_neg (by omega)]
  have HF := Hid.mk hfin
  have hm0 : m = 0 := by rw [h3]; simp [wrongForm] at hwf; rw [hwf]; rfl
  subst hm0
  have hits : its = [] := List.eq_nil_of_length_eq_zero h3.symm
  subst hits
  clear hfin hwx hwf h3 h6 hcell hli h2 H3 H6
  go_enter Tryz.func90, Tryz.ntmps90
  go_wp2_with fail
  go_cut [] (fun v => Touch g w v ∧ v.heap[g]? = some (.cells #[.int .i64 (W + wx : Nat)] 150) ∧ v.heap[w.heap.size]? = some (.cells #[.bool false, .slice ba bn bc, .slice ia 0 ic] 76))
  case first =>
    go_region_with (first | (go_at_call 116; refine (Zcw false ba _ bc ia 0 ic bs d _ HL.out hbn).mono ?_; rintro e w1 ⟨rfl, hb1⟩; have cg := (hb1.cell (p := ⟨g, 0, none⟩) (block_lt_of_cell (c0 _))).trans (c0 _); have fg := (hb1.frozen (p := ⟨g, 0, none⟩) (block_lt_of_cell (c0 _))).trans (f0 _)))
    all_goals
      go_wp2_with fail
      go_meet
      case rel => exact Zf2 HCE.out HWX.out hwle hb1
  case rest =>
    obtain ⟨ht, hc, hx⟩ := hcut
    have hcg : wc.cell? ⟨g, 0, none⟩ = some (.int .i64 (W + wx : Nat)) := by rw [cell_of_row _ _ _ _ _ _ hc]; rfl
    have hx0 : wc.cell? ⟨w.heap.size, 0, none⟩ = some (.bool false) := by rw [cell_of_row _ _ _ _ _ _ hx]; rfl
    have hx1 : wc.cell? ⟨w.heap.size, 1, none⟩ = some (.slice ba bn bc) := by rw [cell_of_row _ _ _ _ _ _ hx]; rfl
    have hx2 : wc.cell? ⟨w.heap.size, 2, none⟩ = some (.slice ia 0 ic) := by rw [cell_of_row _ _ _ _ _ _ hx]; rfl
    have HT := Hid.mk ht
    have HC := Hid.mk hc
    clear ht hc hx
    go_wp2_with fail
    go_loopw [8, 59] (fun q i v => q = .int .i64 bn ∧ i = .int .i64 0 ∧ v = wc) (fun _ i _ => 0)
    case atStart => exact ⟨rfl, rfl, rfl⟩
    case round =>
      obtain ⟨rfl, rfl, rfl⟩ := hrel
      go_wp2_with fail
      go_ret2
      refine ⟨HT.out, .inl ?_⟩
      rw [HF.out, Zc0]
      refine ⟨rfl, ?_, HC.out⟩
      rw [show szb (T.mk false bs []) = bn from by show bs.length + szs [] = bn; rw [Zeb, HL.out]; rfl]
      rfl
set_option maxHeartbeats 2000000 in
theorem Zq2 (bs : List Int) (its : List T) (x : V) (d W g : Nat) (w0 w : World) (hli : Lies w0 (.mk true bs its) x) (hbel : Below w0.heap.size w0 w) (hg : w0.heap.size ≤ g) (hcell : w.heap[g]? = some (.cells #[.int .i64 W] 150)) (hW : W ≤ 16777215) (hd : d ≤ 8)
    (hdeep : ¬ (true = true ∧ d = 8)) (hwf : wrongForm true bs its = false) (hlong : W + wt true bs d ≤ 16777215)
    (ih : ∀ t ∈ its, ∀ (x : V) (d W g : Nat) (w0 w : World), Lies w0 t x → Below w0.heap.size w0 w → w0.heap.size ≤ g → w.heap[g]? = some (.cells #[.int .i64 W] 150) → W ≤ 16777215 → d ≤ 8 → Calls Tryz.prog 90 #[.pointer (some ⟨g, 0, none⟩), .agg #[.bool x.l, .slice x.ba x.bn x.bc, .slice x.ia x.m x.ic], .int .i64 d] w (BodyPost t d W g w)) :
    Calls Tryz.prog 90 #[.pointer (some ⟨g, 0, none⟩), .agg #[.bool x.l, .slice x.ba x.bn x.bc, .slice x.ia x.m x.ic], .int .i64 d] w (BodyPost (.mk true bs its) d W g w) := by
  obtain ⟨l', ba, bn, bc, ia, m, ic⟩ := x
  obtain ⟨h1, h2, h3, h4, h5, ⟨h7, h8⟩, h6⟩ := lies_eq.1 hli
  simp only at h1 h2 h3 h4 h5 h6 h7 h8 ⊢
  subst h1
  have hgl := lt_of_get hcell
  have hbn : bn ≤ maxLen := by unfold maxLen; omega
  have hic : ic ≤ 2 ^ 63 - 1 := h5
  have hm : m ≤ 2 ^ 63 - 1 := by omega
  have hbn2 : bn ≤ 2 ^ 63 - 1 := hbn
  have c0 : ∀ o, (w.alloc o).cell? ⟨g, 0, none⟩ = some (.int .i64 W) := cell_alloc (by rw [cell_of_row _ _ _ _ _ _ hcell]; rfl)
  have f0 : ∀ o, (w.alloc o).frozen? ⟨g, 0, none⟩ = false := fun o => frozen_of_row _ _ _ _ _ ((Below.heap_alloc w o _ hgl).trans hcell)
  have HL := Hid.mk h2.l
  have H3 := Hid.mk h3
  have H6 := Hid.mk h6
  have HCE := Hid.mk hcell
  obtain ⟨wx, hwx⟩ : ∃ wx, wt true bs d = wx := ⟨_, rfl⟩
  have HWX := Hid.mk hwx
  rw [hwx] at hlong
  have hwle : W + wx ≤ 150000000000000 := by omega
  have hl2 : ¬ (16777215 : Int) < ((W + wx : Nat) : Int) := by omega
  have hW0 : W + wx ≤ 16777215 := hlong
  have hfin : wk (T.mk true bs its) d W = wks its (d + 1) (W + wx) := by
    rw [Zi9, if_neg (by simp at hdeep ⊢; omega), if_neg (by rw [hwf]; decide), hwx, if_neg (by omega)]
  have HF := Hid.mk hfin
  have hb0 : bn = 0 := by rw [← h2.l]; simp [wrongForm] at hwf; rw [hwf]; rfl
  subst hb0
  have hd8 : ((d : Int) == 8) = false := by simp; simp at hdeep; omega
  have hd7 : d + 1 ≤ 8 := by simp at hdeep; omega
  have HI := Hid.mk ih
  clear hfin hwx hwf h3 h6 hcell hli h2 ih hdeep
  go_enter Tryz.func90, Tryz.ntmps90
  go_wp2_with fail
  go_cut [] (fun v => Touch g w v ∧ v.heap[g]? = some (.cells #[.int .i64 (W + wx : Nat)] 150) ∧ v.heap[w.heap.size]? = some (.cells #[.bool true, .slice ba 0 bc, .slice ia m ic] 76))
  case first =>
    go_region_with (first | (go_at_call 116; refine (Zcw true ba _ bc ia m ic bs d _ HL.out hbn).mono ?_; rintro e w1 ⟨rfl, hb1⟩; have cg := (hb1.cell (p := ⟨g, 0, none⟩) (block_lt_of_cell (c0 _))).trans (c0 _); have fg := (hb1.frozen (p := ⟨g, 0, none⟩) (block_lt_of_cell (c0 _))).trans (f0 _)))
    all_goals
      go_wp2_with fail
      go_meet
      case rel => exact Zf2 HCE.out HWX.out hwle hb1
  case rest =>
    obtain ⟨ht, hc, hx⟩ := hcut
    have hcg : wc.cell? ⟨g, 0, none⟩ = some (.int .i64 (W + wx : Nat)) := by rw [cell_of_row _ _ _ _ _ _ hc]; rfl
    have hx0 : wc.cell? ⟨w.heap.size, 0, none⟩ = some (.bool true) := by rw [cell_of_row _ _ _ _ _ _ hx]; rfl
    have hx1 : wc.cell? ⟨w.heap.size, 1, none⟩ = some (.slice ba 0 bc) := by rw [cell_of_row _ _ _ _ _ _ hx]; rfl
    have hx2 : wc.cell? ⟨w.heap.size, 2, none⟩ = some (.slice ia m ic) := by rw [cell_of_row _ _ _ _ _ _ hx]; rfl
    have HT := Hid.mk ht
    have HC := Hid.mk hc
    clear ht hc hx
    go_wp2_with fail
    go_loopw [8, 59] (fun q i v => ∃ k W' : Nat, k ≤ m ∧ i = .int .i64 k ∧ q = .int .i64 (szs (its.take k) : Nat) ∧ wks (its.take k) (d + 1) (W + wx) = (W', 0) ∧ Touch g w v ∧ v.heap[g]? = some (.cells #[.int .i64 W'] 150)) (fun _ i _ => m - (intOf i).toNat)
    case atStart => exact ⟨0, W + wx, by omega, rfl, by rw [List.take_zero, Zeb]; rfl, by rw [List.take_zero, Zc0], HT.out, HC.out⟩
    case round =>
      obtain ⟨k, W', hk, rfl, rfl, hws, ht, hc⟩ := hrel
      have HWS := Hid.mk hws
      obtain ⟨hW1, hW2, hW3⟩ := Zi8 (Nat.succ_pos _) hW0 hws
      generalize hq : szs (its.take k) = q at hW3
      have HQ := Hid.mk hq
      clear hws hq
      by_cases hlt : k < m
      · have hk1 : k < its.length := by have := H3.out; omega
        obtain ⟨gi, off, y, hat⟩ := Zd2 H6.out k its[k] (List.getElem?_eq_getElem hk1)
        rw [Nat.zero_add] at hat
        have hb : Below w0.heap.size w0 wr := Touch.below hbel ht hg (by have := hbel.size; omega)
        obtain ⟨rfl, a0, a1, a2, ali⟩ := hat
        have c0' := (hb.cell (p := ⟨gi, off + k * 3, none⟩) (block_lt_of_cell a0)).trans a0
        have c1' := (hb.cell (p := ⟨gi, off + k * 3 + 1, none⟩) (block_lt_of_cell a1)).trans a1
        have c2' := (hb.cell (p := ⟨gi, off + k * 3 + 2, none⟩) (block_lt_of_cell a2)).trans a2
        clear a0 a1 a2
        have ca0 := cell_alloc c0'
        have ca1 := cell_alloc c1'
        have ca2 := cell_alloc c2'
        have hki : (k : Int) < m := by omega
        obtain ⟨u, hu⟩ : ∃ u, its[k] = u := ⟨_, rfl⟩
        have hgt : its[k]? = some u := by rw [← hu]; exact List.getElem?_eq_getElem hk1
        have HGT := Hid.mk hgt
        have HIU := Hid.mk (HI.out u (by rw [← hu]; exact List.getElem_mem hk1) y (d + 1) W' g w0)
        rw [hu] at ali
        have ALI := Hid.mk ali
        have hgr := lt_of_get hc
        have HB := Hid.mk hb
        have HT2 := Hid.mk ht
        have HC2 := Hid.mk hc
        obtain ⟨ul, ub, ui⟩ := u
        have y1 := (lies_eq.1 ali).1
        have y2 := (lies_eq.1 ali).2.1
        have hyl : Hid (y.l = ul) := y1
        have AG := Hid.mk y2
        clear hgt hu ali y1 y2 hb ht hc
        go_wp2_with fail
        rw [show ((d : Int) + 1) = ((d + 1 : Nat) : Int) from by omega]
        have hcal := HIU.out (wr.alloc (.cells #[.bool y.l, .slice y.ba y.bn y.bc, .slice y.ia y.m y.ic] 76)) ALI.out (HB.out.alloc HB.out.size _) hg ((Below.heap_alloc _ _ _ hgr).trans HC2.out) hW2 hd7
        refine hcal.mono ?_
        clear hcal
        rintro e w1 ⟨ht1, hres⟩
        have ht2 : Touch g w w1 := (HT2.out.trans (Touch.of_below ((Below.refl _ _).alloc (Nat.le_refl _) _))).trans ht1
        have hb1 : Below w0.heap.size w0 w1 := Touch.below hbel ht2 hg (by have := hbel.size; omega)
        have hyb : w1.heap[wr.heap.size]? = some (.cells #[.bool y.l, .slice y.ba y.bn y.bc, .slice y.ia y.m y.ic] 76) := (ht1.block _ (by simp) (by omega)).trans (heap_alloc_new _ _)
        rcases hres with ⟨hr0, rfl, hr2⟩ | ⟨hr0, rfl⟩
        · have y0 : w1.cell? ⟨wr.heap.size, 0, none⟩ = some (.bool y.l) := by rw [cell_of_row _ _ _ _ _ _ hyb]; rfl
          have y1 : w1.cell? ⟨wr.heap.size, 1, none⟩ = some (.slice y.ba y.bn y.bc) := by rw [cell_of_row _ _ _ _ _ _ hyb]; rfl
          have y2 : w1.cell? ⟨wr.heap.size, 2, none⟩ = some (.slice y.ia y.m y.ic) := by rw [cell_of_row _ _ _ _ _ _ hyb]; rfl
          obtain ⟨z1, z2, z3⟩ := Zrj (Nat.succ_pos _) hW2 hr0
          have HM := Hid.mk (Zrg HGT.out HWS.out hr0)
          have hsz : sz (T.mk ul ub ui) = szOf ul ub (szb (T.mk ul ub ui)) := Ztx _
          have hge := Zu2 ul ub (szb (T.mk ul ub ui))
          have HSM := Hid.mk (Zrw HGT.out)
          rw [hsz] at z3 HSM
          rw [HQ.out] at HSM
          have HR2 := Hid.mk hr2
          obtain ⟨W'', hW''⟩ : ∃ W'', (wk (T.mk ul ub ui) (d + 1) W').1 = W'' := ⟨_, rfl⟩
          obtain ⟨nn, hnn0⟩ : ∃ nn, szb (T.mk ul ub ui) = nn := ⟨_, rfl⟩
          rw [hW''] at z1 z2 z3 HM HR2
          rw [hnn0] at z3 hge HSM ⊢
          clear hW'' hnn0
          have hnn : nn < 1000000000 := by omega
          have HT3 := Hid.mk ht2
          clear hr0 hsz hr2 hyb ht1 ht2
          go_wp2_with fail
          refine (Zhp y.l y.ba y.bn y.bc y.ia y.m y.ic ub nn _ (AG.out.at hb1) hnn).mono ?_
          rintro e w2 ⟨rfl, hb2⟩
          rw [hyl.out]
          obtain ⟨zz, hzz⟩ : ∃ zz, szOf ul ub nn = zz := ⟨_, rfl⟩
          rw [hzz] at z3 hge HSM ⊢
          clear hzz
          have hq9 : q + zz < 9000000000 := by omega
          go_wp2_with fail
          refine ⟨⟨k + 1, W'', by omega, by simp, ?_, HM.out, HT3.out.trans (Touch.of_below hb2), Below.row hb2 HR2.out⟩, ?_⟩
          · rw [HSM.out]; simp
          · simp [intOf]; omega
        · have HFL := Hid.mk (Zrh HGT.out HWS.out hr0)
          have HR0 := Hid.mk hr0
          obtain ⟨er, her⟩ : ∃ er, (wk (T.mk ul ub ui) (d + 1) W').2 = er := ⟨_, rfl⟩
          have hee : ((er : Int) != 0) = true := by rw [bne_iff_ne]; rw [her] at hr0; omega
          have HER := Hid.mk her
          have HT3 := Hid.mk ht2
          rw [her]
          clear hr0 hyb ht1 ht2 her
          go_wp2_with fail
          go_ret2
          refine ⟨HT3.out, .inr ?_⟩
          rw [HF.out, HFL.out, HER.out]
          exact ⟨by rw [← HER.out]; exact HR0.out, rfl⟩
      · have hkm : k = m := by omega
        subst hkm
        have hki : ¬ (k : Int) < k := by omega
        have ht2 : its.take k = its := List.take_of_length_le (by have := H3.out; omega)
        have hw2 := HWS.out
        have hq2 := HQ.out
        rw [ht2] at hw2 hq2
        have HW2 := Hid.mk hw2
        have HQ2 := Hid.mk hq2
        have HT3 := Hid.mk ht
        have HC3 := Hid.mk hc
        clear ht2 hw2 hq2 ht hc
        go_wp2_with fail
        go_ret2
        refine ⟨HT3.out, .inl ?_⟩
        rw [HF.out, HW2.out]
        refine ⟨rfl, ?_, HC3.out⟩
        rw [show szb (T.mk true bs its) = q from by show bs.length + szs its = q; rw [HQ2.out, HL.out]; exact Nat.zero_add _]
        rfl
theorem Ztj : ∀ t, ∀ (x : V) (d W g : Nat) (w0 w : World), Lies w0 t x → Below w0.heap.size w0 w → w0.heap.size ≤ g → w.heap[g]? = some (.cells #[.int .i64 W] 150) → W ≤ 16777215 → d ≤ 8 →
    Calls Tryz.prog 90 #[.pointer (some ⟨g, 0, none⟩), .agg #[.bool x.l, .slice x.ba x.bn x.bc, .slice x.ia x.m x.ic], .int .i64 d] w (BodyPost t d W g w) := by
  refine T.ind fun l bs its ih x d W g w0 w hli hbel hg hcell hW hd => ?_
  by_cases h1 : (l = true ∧ d = 8) ∨ wrongForm l bs its = true ∨ 16777215 < W + wt l bs d
  · exact Zti l bs its x d W g w0 w hli hbel hg hcell hW hd h1
  · have h2 : ¬ (l = true ∧ d = 8) := fun h => h1 (.inl h)
    have h3 : wrongForm l bs its = false := by
      cases h : wrongForm l bs its with
      | false => rfl
      | true => exact absurd (.inr (.inl h)) h1
    have h4 : W + wt l bs d ≤ 16777215 := Nat.le_of_not_lt fun h => h1 (.inr (.inr h))
    cases l with
    | false => exact Zq1 bs its x d W g w0 w hli hbel hg hcell hW hd h2 h3 h4
    | true => exact Zq2 bs its x d W g w0 w hli hbel hg hcell hW hd h2 h3 h4 ih
theorem Zof {t : T} {d w : Nat} (hw : w ≤ 16777215) (h : (wk t d w).2 = 0) : szb t < 1000000000 := by
  obtain ⟨l, bs, its⟩ := t
  obtain ⟨_, h2, h3, h4⟩ := Zri h
  rw [h4] at h
  obtain ⟨b1, b2, b3⟩ := Zi8 (its := its) (d := d + 1) (w := w + wt l bs d) (W := (wks its (d + 1) (w + wt l bs d)).1) (by omega) h3 (by rw [← h])
  show bs.length + szs its < _
  have hf := Zc8 h2
  cases l with
  | true =>
    have : bs = [] := by simpa using hf
    subst this
    simp
    omega
  | false =>
    have : bs.length ≤ wt false bs d := by simp [wt]; omega
    omega
def mP (t : T) : Nat × Nat := if (wk t 0 0).2 ≠ 0 then (0, (wk t 0 0).2) else if 16777215 < szb t then (0, 20) else (sz t, 0)
set_option maxHeartbeats 1000000 in
theorem Zgs (t : T) (x : V) (w : World) (hli : Lies w t x) :
    Calls Tryz.prog 57 #[.agg #[.bool x.l, .slice x.ba x.bn x.bc, .slice x.ia x.m x.ic]] w fun e w' => e = .returned (.tuple #[.int .i64 ((mP t).1 : Nat), .int .i64 ((mP t).2 : Nat)]) ∧ Below w.heap.size w w' := by
  have HLI := Hid.mk hli
  obtain ⟨m1, hm1⟩ : ∃ m1, mP t = m1 := ⟨_, rfl⟩
  rw [hm1]
  have HM := Hid.mk hm1
  clear hli hm1
  go_enter Tryz.func57, Tryz.ntmps57
  go_wp2_with fail
  have hcal := Ztj t x 0 0 (w.heap.size + 1) w ((w.alloc (.cells #[.bool x.l, .slice x.ba x.bn x.bc, .slice x.ia x.m x.ic] 76)).alloc (.cells #[.int .i64 0] 150)) HLI.out (((Below.refl _ _).alloc (Nat.le_refl _) _).alloc (by simp) _) (by omega)
    (by have := heap_alloc_new (w.alloc (.cells #[.bool x.l, .slice x.ba x.bn x.bc, .slice x.ia x.m x.ic] 76)) (.cells #[.int .i64 0] 150); rw [show (w.alloc (.cells #[.bool x.l, .slice x.ba x.bn x.bc, .slice x.ia x.m x.ic] 76)).heap.size = w.heap.size + 1 from by simp] at this; exact this) (by omega) (by omega)
  rw [show ((0 : Nat) : Int) = 0 from rfl] at hcal
  refine hcal.mono ?_
  clear hcal
  rintro e w1 ⟨ht1, hres⟩
  have hsz : ((w.alloc (.cells #[.bool x.l, .slice x.ba x.bn x.bc, .slice x.ia x.m x.ic] 76)).alloc (.cells #[.int .i64 0] 150)).heap.size = w.heap.size + 1 + 1 := by simp
  have hyb : w1.heap[w.heap.size]? = some (.cells #[.bool x.l, .slice x.ba x.bn x.bc, .slice x.ia x.m x.ic] 76) := (ht1.block _ (by rw [hsz]; omega) (by omega)).trans ((Below.heap_alloc _ _ _ (by simp)).trans (heap_alloc_new _ _))
  have hb0 : Below w.heap.size w ((w.alloc (.cells #[.bool x.l, .slice x.ba x.bn x.bc, .slice x.ia x.m x.ic] 76)).alloc (.cells #[.int .i64 0] 150)) := ((Below.refl _ _).alloc (Nat.le_refl _) _).alloc (by simp) _
  have hb1 : Below w.heap.size w w1 := Touch.below hb0 ht1 (by omega) (by rw [hsz]; omega)
  clear ht1 hsz hb0
  obtain ⟨ul, ub, ui⟩ := t
  have hyl : Hid (x.l = ul) := (lies_eq.1 HLI.out).1
  have AG := Hid.mk ((lies_eq.1 HLI.out).2.1.at hb1)
  have HMM := HM.out
  unfold mP at HMM
  rcases hres with ⟨hr0, rfl, hr2⟩ | ⟨hr0, rfl⟩
  · have y0 : w1.cell? ⟨w.heap.size, 0, none⟩ = some (.bool x.l) := by rw [cell_of_row _ _ _ _ _ _ hyb]; rfl
    have y1 : w1.cell? ⟨w.heap.size, 1, none⟩ = some (.slice x.ba x.bn x.bc) := by rw [cell_of_row _ _ _ _ _ _ hyb]; rfl
    have y2 : w1.cell? ⟨w.heap.size, 2, none⟩ = some (.slice x.ia x.m x.ic) := by rw [cell_of_row _ _ _ _ _ _ hyb]; rfl
    rw [if_neg (by rw [hr0]; simp)] at HMM
    have hnn := Zof (Nat.zero_le _) hr0
    rw [Ztx] at HMM
    obtain ⟨nn, hnn0⟩ : ∃ nn, szb (T.mk ul ub ui) = nn := ⟨_, rfl⟩
    rw [hnn0] at hnn HMM ⊢
    have HB1 := Hid.mk hb1
    clear hr0 hr2 hyb hnn0 hb1
    by_cases hlong : 16777215 < nn
    · rw [if_pos hlong] at HMM
      have hl2 : (16777215 : Int) < nn := by omega
      have HM2 := Hid.mk HMM
      clear HMM HM
      go_wp2_with fail
      go_ret2
      refine ⟨?_, HB1.out⟩
      rw [← HM2.out]
      rfl
    · rw [if_neg hlong] at HMM
      have hl2 : ¬ (16777215 : Int) < nn := by omega
      have HM2 := Hid.mk HMM
      clear HMM HM
      go_wp2_with fail
      refine (Zhp x.l x.ba x.bn x.bc x.ia x.m x.ic ub nn _ AG.out hnn).mono ?_
      rintro e w2 ⟨rfl, hb2⟩
      rw [hyl.out]
      go_wp2_with fail
      go_ret2
      refine ⟨?_, HB1.out.trans (hb2.mono HB1.out.size)⟩
      rw [← HM2.out]
      rfl
  · rw [if_pos hr0] at HMM
    obtain ⟨er, her⟩ : ∃ er, (wk (T.mk ul ub ui) 0 0).2 = er := ⟨_, rfl⟩
    have hee : ((er : Int) != 0) = true := by rw [bne_iff_ne]; rw [her] at hr0; omega
    rw [her] at HMM ⊢
    have HM2 := Hid.mk HMM
    have HB1 := Hid.mk hb1
    clear hr0 hyb her HMM HM hb1
    go_wp2_with fail
    go_ret2
    refine ⟨?_, HB1.out⟩
    rw [← HM2.out]
    rfl
end Go.Proofs.YtchgejomcgoaeaaGreat

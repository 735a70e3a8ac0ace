/- What the survey's body answers of a text. -/
import Derived.Test.YtefhepcplempkaaGreatG04
set_option linter.unusedVariables false
namespace Go.Proofs.YtefhepcplempkaaGreat
open Go.RowKit
set_option maxHeartbeats 1000000 in
theorem Zsl (bs : List Int) (its : List T) (x : V) (d W g : Nat) (w0 w : World) (hli : Lies w0 (.mk false bs its) x) (hbel : Below w0.heap.size w0 w) (hg : w0.heap.size <= g) (hcell : w.heap[g]? = some (.cells #[.int .i64 W] 168)) (hW : W <= 16777215) (hd : d <= 8)
  (hdeep : ¬ (false = true /\ d = 8)) (hwf : wrongForm false bs its = false) (hlong : W + wt false bs d <= 16777215) :
  Calls Tryz.prog 126 #[.pointer (some ⟨g, 0, none⟩), .agg #[.bool x.l, .slice x.ba x.bn x.bc, .slice x.ia x.m x.ic], .int .i64 d] w (BodyPost (.mk false bs its) d W g w) := by
 obtain ⟨l', ba, bn, bc, ia, m, ic⟩ := x
 obtain ⟨h1, h2, h3, h4, h5, ⟨h7, h8⟩, h6⟩ := lies_eq.1 hli
 simp only at h1 h2 h3 h4 h5 h6 h7 h8 ⊢
 subst h1
 have hgl := lt_of_get hcell
 have hbn : bn <= maxLen := by unfold maxLen; omega
 have hic : ic <= 2 ^ 63 - 1 := h5
 have hm : m <= 2 ^ 63 - 1 := by omega
 have hbn2 : bn <= 2 ^ 63 - 1 := hbn
 have c0 : ∀ o, (w.alloc o).cell? ⟨g, 0, none⟩ = some (.int .i64 W) := cell_alloc (by rw [cell_of_row _ _ _ _ _ _ hcell]; rfl)
 have f0 : ∀ o, (w.alloc o).frozen? ⟨g, 0, none⟩ = false := fun o => frozen_of_row _ _ _ _ _ ((Below.heap_alloc w o _ hgl).trans hcell)
 have HL := Hid.mk h2.l
 have H3 := Hid.mk h3
 have H6 := Hid.mk h6
 have HCE := Hid.mk hcell
 obtain ⟨wx, hwx⟩ : ∃ wx, wt false bs d = wx := ⟨_, rfl⟩
 have HWX := Hid.mk hwx
 rw [hwx] at hlong
 have hwle : W + wx <= 150000000000000 := by omega
 have hl2 : ¬ (16777215 : Int) < ((W + wx : Nat) : Int) := by omega
 have hW0 : W + wx <= 16777215 := hlong
 have hfin : wk (T.mk false bs its) d W = wks its (d + 1) (W + wx) := by
  rw [Zjx, if_neg (by simp), if_neg (by rw [hwf]; decide), hwx, if_neg (by omega)]
 have HF := Hid.mk hfin
 have hm0 : m = 0 := by rw [h3]; simp [wrongForm] at hwf; rw [hwf]; rfl
 subst hm0
 have hits : its = [] := List.eq_nil_of_length_eq_zero h3.symm
 subst hits
 clear hfin hwx hwf h3 h6 hcell hli h2 H3 H6
 go_enter Tryz.func126, Tryz.ntmps126
 go_wp2_with fail
 go_cut [] (fun v => Touch g w v /\ v.heap[g]? = some (.cells #[.int .i64 (W + wx : Nat)] 168) /\ v.heap[w.heap.size]? = some (.cells #[.bool false, .slice ba bn bc, .slice ia 0 ic] 109))
 case first =>
  go_region_with (first | (go_at_call 145; refine (Zc8 false ba _ bc ia 0 ic bs d _ HL.out hbn).mono ?_; rintro e w1 ⟨rfl, hb1⟩; have cg := (hb1.cell (p := ⟨g, 0, none⟩) (block_lt_of_cell (c0 _))).trans (c0 _); have fg := (hb1.frozen (p := ⟨g, 0, none⟩) (block_lt_of_cell (c0 _))).trans (f0 _)))
  all_goals
   go_wp2_with fail
   go_meet
   case rel => exact Zg3 HCE.out HWX.out hwle hb1
 case rest =>
  obtain ⟨ht, hc, hx⟩ := hcut
  have hcg : wc.cell? ⟨g, 0, none⟩ = some (.int .i64 (W + wx : Nat)) := by rw [cell_of_row _ _ _ _ _ _ hc]; rfl
  have hx0 : wc.cell? ⟨w.heap.size, 0, none⟩ = some (.bool false) := by rw [cell_of_row _ _ _ _ _ _ hx]; rfl
  have hx1 : wc.cell? ⟨w.heap.size, 1, none⟩ = some (.slice ba bn bc) := by rw [cell_of_row _ _ _ _ _ _ hx]; rfl
  have hx2 : wc.cell? ⟨w.heap.size, 2, none⟩ = some (.slice ia 0 ic) := by rw [cell_of_row _ _ _ _ _ _ hx]; rfl
  have HT := Hid.mk ht
  have HC := Hid.mk hc
  clear ht hc hx
  go_wp2_with fail
  go_loopw [8, 59] (fun q i v => q = .int .i64 bn /\ i = .int .i64 0 /\ v = wc) (fun _ i _ => 0)
  case atStart => exact ⟨rfl, rfl, rfl⟩
  case round =>
   obtain ⟨rfl, rfl, rfl⟩ := hrel
   go_wp2_with fail
   go_ret2
   refine ⟨HT.out, .inl ?_⟩
   rw [HF.out, Zcc]
   refine ⟨rfl, ?_, HC.out⟩
   rw [show szb (T.mk false bs []) = bn from by show bs.length + szs [] = bn; rw [Zdq, HL.out]; rfl]
   rfl
set_option maxHeartbeats 2000000 in
theorem Zsm (bs : List Int) (its : List T) (x : V) (d W g : Nat) (w0 w : World) (hli : Lies w0 (.mk true bs its) x) (hbel : Below w0.heap.size w0 w) (hg : w0.heap.size <= g) (hcell : w.heap[g]? = some (.cells #[.int .i64 W] 168)) (hW : W <= 16777215) (hd : d <= 8)
  (hdeep : ¬ (true = true /\ d = 8)) (hwf : wrongForm true bs its = false) (hlong : W + wt true bs d <= 16777215)
  (ih : ∀ t ∈ its, ∀ (x : V) (d W g : Nat) (w0 w : World), Lies w0 t x -> Below w0.heap.size w0 w -> w0.heap.size <= g -> w.heap[g]? = some (.cells #[.int .i64 W] 168) -> W <= 16777215 -> d <= 8 -> Calls Tryz.prog 126 #[.pointer (some ⟨g, 0, none⟩), .agg #[.bool x.l, .slice x.ba x.bn x.bc, .slice x.ia x.m x.ic], .int .i64 d] w (BodyPost t d W g w)) :
  Calls Tryz.prog 126 #[.pointer (some ⟨g, 0, none⟩), .agg #[.bool x.l, .slice x.ba x.bn x.bc, .slice x.ia x.m x.ic], .int .i64 d] w (BodyPost (.mk true bs its) d W g w) := by
 obtain ⟨l', ba, bn, bc, ia, m, ic⟩ := x
 obtain ⟨h1, h2, h3, h4, h5, ⟨h7, h8⟩, h6⟩ := lies_eq.1 hli
 simp only at h1 h2 h3 h4 h5 h6 h7 h8 ⊢
 subst h1
 have hgl := lt_of_get hcell
 have hbn : bn <= maxLen := by unfold maxLen; omega
 have hic : ic <= 2 ^ 63 - 1 := h5
 have hm : m <= 2 ^ 63 - 1 := by omega
 have hbn2 : bn <= 2 ^ 63 - 1 := hbn
 have c0 : ∀ o, (w.alloc o).cell? ⟨g, 0, none⟩ = some (.int .i64 W) := cell_alloc (by rw [cell_of_row _ _ _ _ _ _ hcell]; rfl)
 have f0 : ∀ o, (w.alloc o).frozen? ⟨g, 0, none⟩ = false := fun o => frozen_of_row _ _ _ _ _ ((Below.heap_alloc w o _ hgl).trans hcell)
 have HL := Hid.mk h2.l
 have H3 := Hid.mk h3
 have H6 := Hid.mk h6
 have HCE := Hid.mk hcell
 obtain ⟨wx, hwx⟩ : ∃ wx, wt true bs d = wx := ⟨_, rfl⟩
 have HWX := Hid.mk hwx
 rw [hwx] at hlong
 have hwle : W + wx <= 150000000000000 := by omega
 have hl2 : ¬ (16777215 : Int) < ((W + wx : Nat) : Int) := by omega
 have hW0 : W + wx <= 16777215 := hlong
 have hfin : wk (T.mk true bs its) d W = wks its (d + 1) (W + wx) := by
  rw [Zjx, if_neg (by simp at hdeep ⊢; omega), if_neg (by rw [hwf]; decide), hwx, if_neg (by omega)]
 have HF := Hid.mk hfin
 have hb0 : bn = 0 := by rw [<- h2.l]; simp [wrongForm] at hwf; rw [hwf]; rfl
 subst hb0
 have hd8 : ((d : Int) == 8) = false := by simp; simp at hdeep; omega
 have hd7 : d + 1 <= 8 := by simp at hdeep; omega
 have HI := Hid.mk ih
 clear hfin hwx hwf h3 h6 hcell hli h2 ih hdeep
 go_enter Tryz.func126, Tryz.ntmps126
 go_wp2_with fail
 go_cut [] (fun v => Touch g w v /\ v.heap[g]? = some (.cells #[.int .i64 (W + wx : Nat)] 168) /\ v.heap[w.heap.size]? = some (.cells #[.bool true, .slice ba 0 bc, .slice ia m ic] 109))
 case first =>
  go_region_with (first | (go_at_call 145; refine (Zc8 true ba _ bc ia m ic bs d _ HL.out hbn).mono ?_; rintro e w1 ⟨rfl, hb1⟩; have cg := (hb1.cell (p := ⟨g, 0, none⟩) (block_lt_of_cell (c0 _))).trans (c0 _); have fg := (hb1.frozen (p := ⟨g, 0, none⟩) (block_lt_of_cell (c0 _))).trans (f0 _)))
  all_goals
   go_wp2_with fail
   go_meet
   case rel => exact Zg3 HCE.out HWX.out hwle hb1
 case rest =>
  obtain ⟨ht, hc, hx⟩ := hcut
  have hcg : wc.cell? ⟨g, 0, none⟩ = some (.int .i64 (W + wx : Nat)) := by rw [cell_of_row _ _ _ _ _ _ hc]; rfl
  have hx0 : wc.cell? ⟨w.heap.size, 0, none⟩ = some (.bool true) := by rw [cell_of_row _ _ _ _ _ _ hx]; rfl
  have hx1 : wc.cell? ⟨w.heap.size, 1, none⟩ = some (.slice ba 0 bc) := by rw [cell_of_row _ _ _ _ _ _ hx]; rfl
  have hx2 : wc.cell? ⟨w.heap.size, 2, none⟩ = some (.slice ia m ic) := by rw [cell_of_row _ _ _ _ _ _ hx]; rfl
  have HT := Hid.mk ht
  have HC := Hid.mk hc
  clear ht hc hx
  go_wp2_with fail
  go_loopw [8, 59] (fun q i v => ∃ k W' : Nat, k <= m /\ i = .int .i64 k /\ q = .int .i64 (szs (its.take k) : Nat) /\ wks (its.take k) (d + 1) (W + wx) = (W', 0) /\ Touch g w v /\ v.heap[g]? = some (.cells #[.int .i64 W'] 168)) (fun _ i _ => m - (intOf i).toNat)
  case atStart => exact ⟨0, W + wx, by omega, rfl, by rw [List.take_zero, Zdq]; rfl, by rw [List.take_zero, Zcc], HT.out, HC.out⟩
  case round =>
   obtain ⟨k, W', hk, rfl, rfl, hws, ht, hc⟩ := hrel
   have HWS := Hid.mk hws
   obtain ⟨hW1, hW2, hW3⟩ := Zg9 (Nat.succ_pos _) hW0 hws
   generalize hq : szs (its.take k) = q at hW3
   have HQ := Hid.mk hq
   clear hws hq
   by_cases hlt : k < m
   ·have hk1 : k < its.length := by have := H3.out; omega
    obtain ⟨gi, off, y, hat⟩ := Zb0 H6.out k its[k] (List.getElem?_eq_getElem hk1)
    rw [Nat.zero_add] at hat
    have hb : Below w0.heap.size w0 wr := Touch.below hbel ht hg (by have := hbel.size; omega)
    obtain ⟨rfl, a0, a1, a2, ali⟩ := hat
    have c0' := (hb.cell (p := ⟨gi, off + k * 3, none⟩) (block_lt_of_cell a0)).trans a0
    have c1' := (hb.cell (p := ⟨gi, off + k * 3 + 1, none⟩) (block_lt_of_cell a1)).trans a1
    have c2' := (hb.cell (p := ⟨gi, off + k * 3 + 2, none⟩) (block_lt_of_cell a2)).trans a2
    clear a0 a1 a2
    have ca0 := cell_alloc c0'
    have ca1 := cell_alloc c1'
    have ca2 := cell_alloc c2'
    have hki : (k : Int) < m := by omega
    obtain ⟨u, hu⟩ : ∃ u, its[k] = u := ⟨_, rfl⟩
    have hgt : its[k]? = some u := by rw [<- hu]; exact List.getElem?_eq_getElem hk1
    have HGT := Hid.mk hgt
    have HIU := Hid.mk (HI.out u (by rw [<- hu]; exact List.getElem_mem hk1) y (d + 1) W' g w0)
    rw [hu] at ali
    have ALI := Hid.mk ali
    have hgr := lt_of_get hc
    have HB := Hid.mk hb
    have HT2 := Hid.mk ht
    have HC2 := Hid.mk hc
    obtain ⟨ul, ub, ui⟩ := u
    have y1 := (lies_eq.1 ali).1
    have y2 := (lies_eq.1 ali).2.1
    have hyl : Hid (y.l = ul) := y1
    have AG := Hid.mk y2
    clear hgt hu ali y1 y2 hb ht hc
    go_wp2_with fail
    rw [show ((d : Int) + 1) = ((d + 1 : Nat) : Int) from by omega]
    have hcal := HIU.out (wr.alloc (.cells #[.bool y.l, .slice y.ba y.bn y.bc, .slice y.ia y.m y.ic] 109)) ALI.out (HB.out.alloc HB.out.size _) hg ((Below.heap_alloc _ _ _ hgr).trans HC2.out) hW2 hd7
    refine hcal.mono ?_
    clear hcal
    rintro e w1 ⟨ht1, hres⟩
    have ht2 : Touch g w w1 := (HT2.out.trans (Touch.of_below ((Below.refl _ _).alloc (Nat.le_refl _) _))).trans ht1
    have hb1 : Below w0.heap.size w0 w1 := Touch.below hbel ht2 hg (by have := hbel.size; omega)
    have hyb : w1.heap[wr.heap.size]? = some (.cells #[.bool y.l, .slice y.ba y.bn y.bc, .slice y.ia y.m y.ic] 109) := (ht1.block _ (by simp) (by omega)).trans (heap_alloc_new _ _)
    rcases hres with ⟨hr0, rfl, hr2⟩ | ⟨hr0, rfl⟩
    ·have y0 : w1.cell? ⟨wr.heap.size, 0, none⟩ = some (.bool y.l) := by rw [cell_of_row _ _ _ _ _ _ hyb]; rfl
     have y1 : w1.cell? ⟨wr.heap.size, 1, none⟩ = some (.slice y.ba y.bn y.bc) := by rw [cell_of_row _ _ _ _ _ _ hyb]; rfl
     have y2 : w1.cell? ⟨wr.heap.size, 2, none⟩ = some (.slice y.ia y.m y.ic) := by rw [cell_of_row _ _ _ _ _ _ hyb]; rfl
     obtain ⟨z1, z2, z3⟩ := Zjy (Nat.succ_pos _) hW2 hr0
     have HM := Hid.mk (Zjv HGT.out HWS.out hr0)
     have hsz : sz (T.mk ul ub ui) = szOf ul ub (szb (T.mk ul ub ui)) := Zum _
     have hge := Zj1 ul ub (szb (T.mk ul ub ui))
     have HSM := Hid.mk (Zs0 HGT.out)
     rw [hsz] at z3 HSM
     rw [HQ.out] at HSM
     have HR2 := Hid.mk hr2
     obtain ⟨W'', hW''⟩ : ∃ W'', (wk (T.mk ul ub ui) (d + 1) W').1 = W'' := ⟨_, rfl⟩
     obtain ⟨nn, hnn0⟩ : ∃ nn, szb (T.mk ul ub ui) = nn := ⟨_, rfl⟩
     rw [hW''] at z1 z2 z3 HM HR2
     rw [hnn0] at z3 hge HSM ⊢
     clear hW'' hnn0
     have hnn : nn < 1000000000 := by omega
     have HT3 := Hid.mk ht2
     clear hr0 hsz hr2 hyb ht1 ht2
     go_wp2_with fail
     refine (Ziz y.l y.ba y.bn y.bc y.ia y.m y.ic ub nn _ (AG.out.at hb1) hnn).mono ?_
     rintro e w2 ⟨rfl, hb2⟩
     rw [hyl.out]
     obtain ⟨zz, hzz⟩ : ∃ zz, szOf ul ub nn = zz := ⟨_, rfl⟩
     rw [hzz] at z3 hge HSM ⊢
     clear hzz
     have hq9 : q + zz < 9000000000 := by omega
     go_wp2_with fail
     refine ⟨⟨k + 1, W'', by omega, by simp, ?_, HM.out, HT3.out.trans (Touch.of_below hb2), Below.row hb2 HR2.out⟩, ?_⟩
     ·rw [HSM.out]; simp
     ·simp [intOf]; omega
    ·have HFL := Hid.mk (Zjw HGT.out HWS.out hr0)
     have HR0 := Hid.mk hr0
     obtain ⟨er, her⟩ : ∃ er, (wk (T.mk ul ub ui) (d + 1) W').2 = er := ⟨_, rfl⟩
     have hee : ((er : Int) != 0) = true := by rw [bne_iff_ne]; rw [her] at hr0; omega
     have HER := Hid.mk her
     have HT3 := Hid.mk ht2
     rw [her]
     clear hr0 hyb ht1 ht2 her
     go_wp2_with fail
     go_ret2
     refine ⟨HT3.out, .inr ?_⟩
     rw [HF.out, HFL.out, HER.out]
     exact ⟨by rw [<- HER.out]; exact HR0.out, rfl⟩
   ·have hkm : k = m := by omega
    subst hkm
    have hki : ¬ (k : Int) < k := by omega
    have ht2 : its.take k = its := List.take_of_length_le (by have := H3.out; omega)
    have hw2 := HWS.out
    have hq2 := HQ.out
    rw [ht2] at hw2 hq2
    have HW2 := Hid.mk hw2
    have HQ2 := Hid.mk hq2
    have HT3 := Hid.mk ht
    have HC3 := Hid.mk hc
    clear ht2 hw2 hq2 ht hc
    go_wp2_with fail
    go_ret2
    refine ⟨HT3.out, .inl ?_⟩
    rw [HF.out, HW2.out]
    refine ⟨rfl, ?_, HC3.out⟩
    rw [show szb (T.mk true bs its) = q from by show bs.length + szs its = q; rw [HQ2.out, HL.out]; exact Nat.zero_add _]
    rfl
theorem Zt9 : ∀ t, ∀ (x : V) (d W g : Nat) (w0 w : World), Lies w0 t x -> Below w0.heap.size w0 w -> w0.heap.size <= g -> w.heap[g]? = some (.cells #[.int .i64 W] 168) -> W <= 16777215 -> d <= 8 →
  Calls Tryz.prog 126 #[.pointer (some ⟨g, 0, none⟩), .agg #[.bool x.l, .slice x.ba x.bn x.bc, .slice x.ia x.m x.ic], .int .i64 d] w (BodyPost t d W g w) := by
 refine T.ind fun l bs its ih x d W g w0 w hli hbel hg hcell hW hd => ?_
 by_cases h1 : (l = true /\ d = 8) \/ wrongForm l bs its = true \/ 16777215 < W + wt l bs d
 ·exact Zt8 l bs its x d W g w0 w hli hbel hg hcell hW hd h1
 ·have h2 : ¬ (l = true /\ d = 8) := fun h => h1 (.inl h)
  have h3 : wrongForm l bs its = false := by
   cases h : wrongForm l bs its with
   | false => rfl
   | true => exact absurd (.inr (.inl h)) h1
  have h4 : W + wt l bs d <= 16777215 := Nat.le_of_not_lt fun h => h1 (.inr (.inr h))
  cases l with
  | false => exact Zsl bs its x d W g w0 w hli hbel hg hcell hW hd h2 h3 h4
  | true => exact Zsm bs its x d W g w0 w hli hbel hg hcell hW hd h2 h3 h4 ih
theorem Zp9 {t : T} {d w : Nat} (hw : w <= 16777215) (h : (wk t d w).2 = 0) : szb t < 1000000000 := by
 obtain ⟨l, bs, its⟩ := t
 obtain ⟨_, h2, h3, h4⟩ := Zpz h
 rw [h4] at h
 obtain ⟨b1, b2, b3⟩ := Zg9 (its := its) (d := d + 1) (w := w + wt l bs d) (W := (wks its (d + 1) (w + wt l bs d)).1) (by omega) h3 (by rw [<- h])
 show bs.length + szs its < _
 have hf := Zci h2
 cases l with
 | true =>
  have : bs = [] := by simpa using hf
  subst this
  simp
  omega
 | false =>
  have : bs.length <= wt false bs d := by simp [wt]; omega
  omega
def mP (t : T) : Nat × Nat := if (wk t 0 0).2 ≠ 0 then (0, (wk t 0 0).2) else if 16777215 < szb t then (0, 20) else (sz t, 0)
set_option maxHeartbeats 1000000 in
theorem Zh5 (t : T) (x : V) (w : World) (hli : Lies w t x) :
  Calls Tryz.prog 89 #[.agg #[.bool x.l, .slice x.ba x.bn x.bc, .slice x.ia x.m x.ic]] w fun e w' => e = .returned (.tuple #[.int .i64 ((mP t).1 : Nat), .int .i64 ((mP t).2 : Nat)]) /\ Below w.heap.size w w' := by
 have HLI := Hid.mk hli
 obtain ⟨m1, hm1⟩ : ∃ m1, mP t = m1 := ⟨_, rfl⟩
 rw [hm1]
 have HM := Hid.mk hm1
 clear hli hm1
 go_enter Tryz.func89, Tryz.ntmps89
 go_wp2_with fail
 have hcal := Zt9 t x 0 0 (w.heap.size + 1) w ((w.alloc (.cells #[.bool x.l, .slice x.ba x.bn x.bc, .slice x.ia x.m x.ic] 109)).alloc (.cells #[.int .i64 0] 168)) HLI.out (((Below.refl _ _).alloc (Nat.le_refl _) _).alloc (by simp) _) (by omega)
  (by have := heap_alloc_new (w.alloc (.cells #[.bool x.l, .slice x.ba x.bn x.bc, .slice x.ia x.m x.ic] 109)) (.cells #[.int .i64 0] 168); rw [show (w.alloc (.cells #[.bool x.l, .slice x.ba x.bn x.bc, .slice x.ia x.m x.ic] 109)).heap.size = w.heap.size + 1 from by simp] at this; exact this) (by omega) (by omega)
 rw [show ((0 : Nat) : Int) = 0 from rfl] at hcal
 refine hcal.mono ?_
 clear hcal
 rintro e w1 ⟨ht1, hres⟩
 have hsz : ((w.alloc (.cells #[.bool x.l, .slice x.ba x.bn x.bc, .slice x.ia x.m x.ic] 109)).alloc (.cells #[.int .i64 0] 168)).heap.size = w.heap.size + 1 + 1 := by simp
 have hyb : w1.heap[w.heap.size]? = some (.cells #[.bool x.l, .slice x.ba x.bn x.bc, .slice x.ia x.m x.ic] 109) := (ht1.block _ (by rw [hsz]; omega) (by omega)).trans ((Below.heap_alloc _ _ _ (by simp)).trans (heap_alloc_new _ _))
 have hb0 : Below w.heap.size w ((w.alloc (.cells #[.bool x.l, .slice x.ba x.bn x.bc, .slice x.ia x.m x.ic] 109)).alloc (.cells #[.int .i64 0] 168)) := ((Below.refl _ _).alloc (Nat.le_refl _) _).alloc (by simp) _
 have hb1 : Below w.heap.size w w1 := Touch.below hb0 ht1 (by omega) (by rw [hsz]; omega)
 clear ht1 hsz hb0
 obtain ⟨ul, ub, ui⟩ := t
 have hyl : Hid (x.l = ul) := (lies_eq.1 HLI.out).1
 have AG := Hid.mk ((lies_eq.1 HLI.out).2.1.at hb1)
 have HMM := HM.out
 unfold mP at HMM
 rcases hres with ⟨hr0, rfl, hr2⟩ | ⟨hr0, rfl⟩
 ·have y0 : w1.cell? ⟨w.heap.size, 0, none⟩ = some (.bool x.l) := by rw [cell_of_row _ _ _ _ _ _ hyb]; rfl
  have y1 : w1.cell? ⟨w.heap.size, 1, none⟩ = some (.slice x.ba x.bn x.bc) := by rw [cell_of_row _ _ _ _ _ _ hyb]; rfl
  have y2 : w1.cell? ⟨w.heap.size, 2, none⟩ = some (.slice x.ia x.m x.ic) := by rw [cell_of_row _ _ _ _ _ _ hyb]; rfl
  rw [if_neg (by rw [hr0]; simp)] at HMM
  have hnn := Zp9 (Nat.zero_le _) hr0
  rw [Zum] at HMM
  obtain ⟨nn, hnn0⟩ : ∃ nn, szb (T.mk ul ub ui) = nn := ⟨_, rfl⟩
  rw [hnn0] at hnn HMM ⊢
  have HB1 := Hid.mk hb1
  clear hr0 hr2 hyb hnn0 hb1
  by_cases hlong : 16777215 < nn
  ·rw [if_pos hlong] at HMM
   have hl2 : (16777215 : Int) < nn := by omega
   have HM2 := Hid.mk HMM
   clear HMM HM
   go_wp2_with fail
   go_ret2
   refine ⟨?_, HB1.out⟩
   rw [<- HM2.out]
   rfl
  ·rw [if_neg hlong] at HMM
   have hl2 : ¬ (16777215 : Int) < nn := by omega
   have HM2 := Hid.mk HMM
   clear HMM HM
   go_wp2_with fail
   refine (Ziz x.l x.ba x.bn x.bc x.ia x.m x.ic ub nn _ AG.out hnn).mono ?_
   rintro e w2 ⟨rfl, hb2⟩
   rw [hyl.out]
   go_wp2_with fail
   go_ret2
   refine ⟨?_, HB1.out.trans (hb2.mono HB1.out.size)⟩
   rw [<- HM2.out]
   rfl
 ·rw [if_pos hr0] at HMM
  obtain ⟨er, her⟩ : ∃ er, (wk (T.mk ul ub ui) 0 0).2 = er := ⟨_, rfl⟩
  have hee : ((er : Int) != 0) = true := by rw [bne_iff_ne]; rw [her] at hr0; omega
  rw [her] at HMM ⊢
  have HM2 := Hid.mk HMM
  have HB1 := Hid.mk hb1
  clear hr0 hyb her HMM HM hb1
  go_wp2_with fail
  go_ret2
  refine ⟨?_, HB1.out⟩
  rw [<- HM2.out]
  rfl
def Row (g : Nat) (w : World) (R : List Int) : Prop := w.heap[g]? = some (.cells (R.map (Value.int .u8)).toArray 5)
theorem Row.set {g : Nat} {w : World} {R : List Int} (h : Row g w R) (i : Nat) (x : Int) : Row g (w.setCell ⟨g, i, none⟩ (.int .u8 x)) (R.set i x) := by
 have := heap_setCell_same w g i _ 5 (.int .u8 x) h
 unfold Row
 rw [this]
 congr 2
 rw [List.setIfInBounds_toArray, List.map_set]
theorem Row.cell {g : Nat} {w : World} {R : List Int} (h : Row g w R) {i : Nat} (hi : i < R.length) : w.cell? ⟨g, i, none⟩ = some (.int .u8 (R.getD i 0)) := by
 rw [cell_of_row _ _ _ _ _ _ h]
 simp [List.getElem?_eq_getElem hi]
theorem Row.frozen {g : Nat} {w : World} {R : List Int} (h : Row g w R) (i : Nat) : w.frozen? ⟨g, i, none⟩ = false := frozen_of_row _ _ _ _ _ h
theorem Zmf (R tl : List Int) (a e : Nat) (v : Int) (ha : a + 1 <= R.length) : (R.take (a + 1) ++ tl ++ R.drop e).set a v = R.take a ++ (v :: tl) ++ R.drop e := by
 have h1 : R.take (a + 1) = R.take a ++ [R[a]] := by rw [List.take_add_one, List.getElem?_eq_getElem (by omega)]; rfl
 have h2 : (R.take a).length = a := by rw [List.length_take]; omega
 rw [h1, List.append_assoc, List.append_assoc, List.set_append_right _ _ (by omega), h2, Nat.sub_self]
 simp
set_option maxHeartbeats 1000000 in
theorem Zhs (g at_ S n b : Nat) (R : List Int) (w : World) (hR : Row g w R) (hS : R.length = S) (hat : at_ <= S) (hS2 : S <= 4611686018427387904) (hn : n < 16777216) (hb : b = 128 \/ b = 192) (hfit : (hd b n).length <= at_) :
  Calls Tryz.prog 129 #[.slice (some ⟨g, 0, none⟩) S S, .int .i64 at_, .int .u8 b, .int .i64 n] w fun e w' => e = .returned (.int .i64 (at_ - (hd b n).length : Nat)) /\ Row g w' (R.take (at_ - (hd b n).length) ++ hd b n ++ R.drop at_) /\ Touch g w w' := by
 have hlen := hd_len b n
 have hb2 : b <= 192 := by omega
 by_cases h5 : n <= 55
 ·have e1 : hd b n = [((b + n : Nat) : Int)] := by rw [hd, if_pos h5]
  rw [e1] at hfit ⊢
  simp only [List.length_singleton] at hfit ⊢
  obtain ⟨a, rfl⟩ : ∃ a, at_ = a + 1 := ⟨at_ - 1, by omega⟩
  have hcell := hR.cell (i := a) (by omega)
  have hfz := hR.frozen a
  have hset := Zmf R [] a (a + 1) ((b + n : Nat) : Int) (by omega)
  rw [List.append_nil, List.take_append_drop] at hset
  have hrow := hR.set a ((b + n : Nat) : Int)
  rw [hset] at hrow
  have HR := Hid.mk hrow
  have h55 : (n : Int) <= 55 := by omega
  clear hset hrow hR hlen e1 hfit hb
  go_enter Tryz.func129, Tryz.ntmps129
  go_wp2_with fail
  go_ret
  exact ⟨by simp, by simpa using HR.out, Touch.setCell _ _ _ _⟩
 ·have e1 : hd b n = ((b + 55 + nb n : Nat) : Int) :: be n := by rw [hd, if_neg h5]
  have hnb := Zfl hn
  have hnb1 := Zxz (n := n) (by omega)
  rw [if_pos (by omega)] at hlen
  rw [e1] at hlen hfit ⊢
  rw [hlen] at hfit ⊢
  obtain ⟨a0, rfl⟩ : ∃ a0, at_ = a0 + (1 + nb n) := ⟨at_ - (1 + nb n), by omega⟩
  rw [show a0 + (1 + nb n) - (1 + nb n) = a0 from by omega]
  obtain ⟨nbn, hnbn⟩ : ∃ k, nb n = k := ⟨_, rfl⟩
  obtain ⟨bn, hbn⟩ : ∃ k, be n = k := ⟨_, rfl⟩
  rw [hnbn] at hnb hnb1 hat ⊢
  rw [hbn]
  have HNB := Hid.mk hnbn
  have HBE := Hid.mk hbn
  have HR := Hid.mk hR
  have h55 : ¬ (n : Int) <= 55 := by omega
  clear hR hlen e1 hfit hb hnbn hbn
  go_enter Tryz.func129, Tryz.ntmps129
  go_wp2_with fail
  go_loopw [1, 9, 10] (fun p c q v => ∃ (a k r : Nat) (tl : List Int), p = .int .i64 a /\ c = .int .i64 k /\ q = .int .i64 r /\ r <= n /\ a = a0 + 1 + nb r /\ k + nb r = nbn /\ bn = be r ++ tl /\ Row g v (R.take a ++ tl ++ R.drop (a0 + (1 + nbn))) /\ Touch g w v) (fun _ _ q _ => (intOf q).toNat)
  case atStart => exact ⟨a0 + (1 + nbn), 0, n, [], rfl, rfl, rfl, Nat.le_refl _, by rw [HNB.out]; omega, by rw [HNB.out]; omega, by rw [List.append_nil]; exact HBE.out.symm, by rw [List.append_nil, List.take_append_drop]; exact HR.out, Touch.refl _ _⟩
  case round =>
   obtain ⟨a, k, r, tl, rfl, rfl, rfl, hrn, ha, hk, hbe, hrow, ht⟩ := hrel
   by_cases h0 : r = 0
   ·subst h0
    rw [Zf4] at ha hk
    rw [Zee, List.nil_append] at hbe
    have ha' : a = a0 + 1 := by omega
    have hk' : k = nbn := by omega
    subst ha' hk' hbe
    have htl : (R.take (a0 + 1)).length = a0 + 1 := by rw [List.length_take]; omega
    have hcell := hrow.cell (i := a0) (by simp; omega)
    have hfz := hrow.frozen a0
    have hrow2 := hrow.set a0 ((b + 55 + k : Nat) : Int)
    rw [Zmf _ _ _ _ _ (by omega)] at hrow2
    have HRW := Hid.mk hrow2
    have HT := Hid.mk ht
    clear hrow hrow2 ht htl ha hk
    go_wp2_with fail
    go_ret
    exact ⟨by simp, by simpa using HRW.out, HT.out.trans (Touch.setCell _ _ _ _)⟩
   ·rw [Zgj (by omega)] at ha hk
    rw [Zef (by omega)] at hbe
    obtain ⟨a', rfl⟩ : ∃ a', a = a' + 1 := ⟨a - 1, by omega⟩
    have hr0 : (0 : Int) < r := by omega
    have htl : (R.take (a' + 1)).length = a' + 1 := by rw [List.length_take]; omega
    have hcell := hrow.cell (i := a') (by simp; omega)
    have hfz := hrow.frozen a'
    have hrow2 := hrow.set a' ((r % 256 : Nat) : Int)
    rw [Zmf _ _ _ _ _ (by omega)] at hrow2
    have HRW := Hid.mk hrow2
    have HT := Hid.mk ht
    have HBB := Hid.mk hbe
    have HAA := Hid.mk ha
    have HKK := Hid.mk hk
    have hka : a' + 1 <= S := by omega
    have hkb : k < 10 := by omega
    have hrb : r < 16777216 := by omega
    clear hrow hrow2 ht htl ha hk hbe
    go_wp2_with fail
    refine ⟨⟨a', k + 1, r / 256, ((r % 256 : Nat) : Int) :: tl, rfl, by simp, by simp, by omega, by have := HAA.out; omega, by have := HKK.out; omega, by rw [HBB.out, List.append_assoc]; rfl, by simpa using HRW.out, HT.out.trans (Touch.setCell _ _ _ _)⟩, ?_⟩
    simp [intOf]
    omega
theorem Zoa {w : World} {g o dl dc bn bc : Nat} {ba da : Option Addr} {bs R : List Int} (hR : Row g w R) (hA : Ag w ba bn bc bs) (hdl : dl = bn) (hfit : o + bn <= R.length) (hda : 0 < bn -> da = some ⟨g, o, none⟩) :
  ∃ w', (∀ ty, (Builtin.copy_ #[23, 23] ty #[.slice da dl dc, .slice ba bn bc]).run Tryz.prog w = .ok (.int .i64 bn) w') /\ Row g w' (R.take o ++ bs ++ R.drop (o + bn)) /\ Touch g w w' := by
 subst hdl
 have hl := hA.l
 by_cases h0 : dl = 0
 ·subst h0
  have hb : bs = [] := List.eq_nil_of_length_eq_zero hl
  subst hb
  refine ⟨w, fun ty => ?_, by rw [List.append_nil, Nat.add_zero, List.take_append_drop]; exact hR, Touch.refl _ _⟩
  rw [run_copy_none (P := Tryz.prog) w 23 23 ty 5 _ _ _ _ _ _ Tryz.underlying23 (by kernel_rfl) (by simp)]
  rfl
 ·obtain ⟨gb, off, rfl, h1, h2, h3⟩ := ag_head hA (by omega)
  have hda := hda (by omega)
  subst hda
  refine ⟨_, fun ty => ?_, ?_, Touch.setRow g w ((R.take o ++ bs ++ R.drop (o + dl)).map (Value.int .u8)).toArray⟩
  ·rw [run_copy_row (P := Tryz.prog) w 23 23 ty 5 g o dl dc ⟨gb, off, none⟩ dl bc _ 5 (bs.map (Value.int .u8)) Tryz.underlying23 (by kernel_rfl) hR (by simp [hl]) ?_ (by simp; omega) (B8_one2 _)]
   ·congr 1
    ·simp [goInt, hl]
    ·congr 2
     simp [List.map_append, List.map_take, List.map_drop, hl]
   ·intro j v hv
    have hj : j < dl := by have := (List.getElem?_eq_some_iff.1 hv).1; simpa [hl] using this
    rw [Zaz, h3 j hj, <- hv]
    simp [List.getElem?_eq_getElem (show j < bs.length by omega)]
  ·exact setRow_heap _ _ _ _ _ _ hR
theorem step_copy {P : Program} {ops : Array Oper} {o : Oper} {a : Act} {w : World} {K : Act -> World -> Prop} {Q : Exit -> Act -> World -> Prop} {E : Prop}
  (hg : o.guard = none) (d x : Operand) (dT sT : TypeId) (hop : o.op = Op.call { callee := Callee.builtin Builtin.copy, args := #[d, x], argTypes := #[dT, sT] })
  (v u : Value) (hd : a.eval d = v) (hx : a.eval x = u) {v' : Value} {w' : World} (hr : (Builtin.copy_ #[dT, sT] o.type #[v, u]).run P w = .ok v' w') (hK : K (a.put o.dst v') w') :
  if Region.wanted o (yielded ops a.tmps) = true then Oper.wp P o a w K Q else E := by
 have hw : Region.wanted o (yielded ops a.tmps) = true := by simp [Region.wanted, hg]
 rw [if_pos hw]
 unfold Oper.wp
 simp [execOp, hop, resolve, invoke, builtin, hd, hx, hr, Result.andThen]
 exact hK
theorem Zn7 {bs : List Int} : enc (.mk false bs []) = if bare false bs then bs else hd 128 bs.length ++ bs := by rw [Zch, Za2, List.append_nil]; rfl
set_option maxHeartbeats 1000000 in
theorem Ztf (bs : List Int) (x : V) (g S fin : Nat) (R : List Int) (w0 w : World) (hli : Lies w0 (.mk false bs []) x) (hbel : Below w0.heap.size w0 w) (hg : w0.heap.size <= g) (hR : Row g w R) (hS : R.length = S) (hfin : fin <= S) (hS2 : S <= 4611686018427387904) (hbody : bs.length < 16777216) (hfit : (enc (.mk false bs [])).length <= fin) :
  Calls Tryz.prog 90 #[.slice (some ⟨g, 0, none⟩) S S, .int .i64 fin, .agg #[.bool x.l, .slice x.ba x.bn x.bc, .slice x.ia x.m x.ic]] w fun e w' => e = .returned (.int .i64 (fin - (enc (.mk false bs [])).length : Nat)) /\ Row g w' (R.take (fin - (enc (.mk false bs [])).length) ++ enc (.mk false bs []) ++ R.drop fin) /\ Touch g w w' := by
 obtain ⟨l', ba, bn, bc, ia, m, ic⟩ := x
 obtain ⟨h1, h2, h3, h4, h5, ⟨h7, h8⟩, h6⟩ := lies_eq.1 hli
 simp only at h1 h2 h3 h4 h5 h6 h7 h8 ⊢
 subst h1
 simp only [List.length_nil] at h3
 have hl := h2.l
 have hgl := lt_of_get hR
 have hA := h2.at hbel
 have hlen : bs.length <= (enc (.mk false bs [])).length := by rw [Zn7]; split <;> simp
 obtain ⟨a, ha⟩ : ∃ a, fin = a + bn := ⟨fin - bn, by omega⟩
 subst ha
 have hR1 : Row g (w.alloc (.cells #[.bool false, .slice ba bn bc, .slice ia m ic] 109)).drew R := (Below.heap_alloc _ _ _ hgl).trans hR
 have hbw : Below w.heap.size w (w.alloc (.cells #[.bool false, .slice ba bn bc, .slice ia m ic] 109)).drew := ((Below.refl _ _).alloc (Nat.le_refl _) _).drew
 obtain ⟨w1, hrun, hrow, ht⟩ := Zoa (o := a) (dl := ((a : Int) + bn).toNat - a) (dc := S - a) (da := if S = a then some ⟨g, 0, none⟩ else some ⟨g, a, none⟩) hR1 (hA.at hbw) (by omega) (by omega) (fun h => if_neg (by omega))
 have hA1 : Ag w1 ba bn bc bs := h2.at (Touch.below (hbel.alloc hbel.size _).drew ht hg (by have := hbel.size; simp; omega))
 have hx : w1.heap[w.heap.size]? = some (.cells #[.bool false, .slice ba bn bc, .slice ia m ic] 109) := (ht.block _ (by simp) (by omega)).trans (heap_alloc_new _ _)
 have y0 : w1.cell? ⟨w.heap.size, 0, none⟩ = some (.bool false) := by rw [cell_of_row _ _ _ _ _ _ hx]; rfl
 have y1 : w1.cell? ⟨w.heap.size, 1, none⟩ = some (.slice ba bn bc) := by rw [cell_of_row _ _ _ _ _ _ hx]; rfl
 have y2 : w1.cell? ⟨w.heap.size, 2, none⟩ = some (.slice ia m ic) := by rw [cell_of_row _ _ _ _ _ _ hx]; rfl
 have hT : Touch g w w1 := (Touch.of_below hbw).trans ht
 have HRUN := Hid.mk hrun
 have hab : (a : Int) <= (a : Int) + bn := by omega
 have hbnS : (a : Int) + bn <= S := by omega
 obtain ⟨en, hen⟩ : ∃ en, enc (.mk false bs []) = en := ⟨_, rfl⟩
 rw [hen] at hfit ⊢
 rw [Zn7] at hen
 have HEN := Hid.mk hen
 have HROW := Hid.mk hrow
 have HA1 := Hid.mk hA1
 have HT := Hid.mk hT
 have HX := Hid.mk hx
 have HL := Hid.mk hl
 clear hrun hrow ht hA1 hx hT hR1 hbw hA hli h2 h3 h6 hR hen hl hlen
 go_enter Tryz.func90, Tryz.ntmps90
 go_wp2_with fail
 go_cut [0] (fun o v => o = .slice (some ⟨g, 0, none⟩) S S /\ v = w1)
 case first =>
  go_region_law (refine step_copy rfl _ _ _ _ rfl _ _ rfl rfl (HRUN.out _) ?_)
  all_goals
   go_wp2_with fail
   all_goals
    go_meet
    case rel => exact ⟨by simp [*], rfl⟩
 case rest =>
 obtain ⟨rfl, rfl⟩ := hcut
 go_wp2_with fail
 refine (Zod false ba bn bc ia m ic bs _ HA1.out).mono ?_
 rintro e w2 ⟨rfl, hb2⟩
 have hT2 : Touch g w w2 := HT.out.trans (Touch.of_below hb2)
 have hrow2 : Row g w2 (R.take a ++ bs ++ R.drop (a + bn)) := Below.row hb2 HROW.out
 have hx2 := Below.row hb2 HX.out
 by_cases hbr : bare false bs = true
 ·have e1 := HEN.out
  rw [if_pos hbr] at e1
  subst e1
  rw [hbr]
  have HR2 := Hid.mk hrow2
  have HT2 := Hid.mk hT2
  clear hrow2 hT2 hx2 y0 y1 y2
  go_wp2_with fail
  go_ret
  rw [HL.out, show a + bn - bn = a from by omega]
  exact ⟨rfl, HR2.out, HT2.out⟩
 ·have e1 := HEN.out
  rw [if_neg hbr] at e1
  have hbr2 : bare false bs = false := by simpa using hbr
  rw [hbr2]
  have hle : en.length = (hd 128 bn).length + bn := by rw [<- e1, List.length_append, HL.out]
  have hRl : (R.take a ++ bs ++ R.drop (a + bn)).length = S := by simp [HL.out]; omega
  have y0 : w2.cell? ⟨w.heap.size, 0, none⟩ = some (.bool false) := by rw [cell_of_row _ _ _ _ _ _ hx2]; rfl
  have y1 : w2.cell? ⟨w.heap.size, 1, none⟩ = some (.slice ba bn bc) := by rw [cell_of_row _ _ _ _ _ _ hx2]; rfl
  have hcal := Zhs g a S bn 128 (R.take a ++ bs ++ R.drop (a + bn)) w2 hrow2 hRl (by omega) hS2 (by rw [HL.out] at hbody; exact hbody) (.inl rfl) (by omega)
  rw [show ((128 : Nat) : Int) = 128 from rfl] at hcal
  have HCAL := Hid.mk hcal
  have HT2 := Hid.mk hT2
  have HE1 := Hid.mk e1
  have HLE := Hid.mk hle
  clear hcal hRl hx2 hrow2 hT2 e1 hle
  go_wp2_with fail
  refine HCAL.out.mono ?_
  rintro e w3 ⟨rfl, hr3, ht3⟩
  have hle := HLE.out
  have e1 := HE1.out
  have hta : (R.take a).length = a := by rw [List.length_take]; omega
  obtain ⟨h, hh⟩ : ∃ h, (hd 128 bn).length = h := ⟨_, rfl⟩
  rw [hh] at hr3 hle ⊢
  have hfinal : List.take (a - h) (R.take a ++ bs ++ R.drop (a + bn)) ++ hd 128 bn ++ List.drop a (R.take a ++ bs ++ R.drop (a + bn)) = R.take (a + bn - en.length) ++ en ++ R.drop (a + bn) := by
   rw [<- e1, HL.out, List.length_append, hh, HL.out, show a + bn - (h + bn) = a - h from by omega, List.append_assoc (R.take a), List.take_append_of_le_length (by omega), List.take_take, Nat.min_eq_left (by omega), List.drop_append_of_le_length (by omega), List.drop_take_self]
   simp
  rw [hfinal] at hr3
  have hret : a - h = a + bn - en.length := by omega
  rw [hret]
  have HR3 := Hid.mk hr3
  have HT3 := Hid.mk (HT2.out.trans ht3)
  clear hr3 ht3 hfinal hret hle e1 hta hh
  go_wp2_with fail
  go_ret
  exact ⟨rfl, HR3.out, HT3.out⟩
end Go.Proofs.YtefhepcplempkaaGreat

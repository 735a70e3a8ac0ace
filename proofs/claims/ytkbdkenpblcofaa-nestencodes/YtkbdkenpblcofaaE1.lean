/- What the document's walk answers: what is amiss with an item. -/
import Derived.Test.YtkbdkenpblcofaaX1
namespace Go.Proofs.Ytkbdkenpblcofaa
open Go.RowKit
set_option linter.unusedVariables false
def WalkSaid (t : T) : Prop := ∀ (x : V) (w : World) (d ww : Nat), Lies w t x → d ≤ 8 → ww ≤ 16777215 →
  Calls Try.prog 21 #[.agg #[.bool x.l, .slice x.ba x.bn x.bc, .slice x.ia x.m x.ic], .int .i64 d, .int .i64 ww] w fun e w' => e = .returned (.tuple #[.int .i64 ((wk t d ww).1 : Nat), .int .i64 ((wk t d ww).2 : Nat)]) ∧ Below w.heap.size w w'
set_option maxRecDepth 20000 in
set_option maxHeartbeats 4000000 in
/-- The things of a list, one behind the other. -/
theorem walk_step (l : Bool) (bs : List Int) (its : List T) (ih : ∀ t ∈ its, WalkSaid t) : WalkSaid (.mk l bs its) := by
  intro x w d ww hx hd hw
  obtain ⟨xl, xag, xm, xic, xic2, ⟨xbn, xm2⟩, xall⟩ := lies_eq.1 hx
  obtain ⟨res, hres⟩ : ∃ r, wk (.mk l bs its) d ww = r := ⟨_, rfl⟩
  rw [hres]
  rw [wk_eq] at hres
  have HBX := Hid.mk (b1_new w x)
  have HBN := Hid.mk (below_new w (.cells #[.bool x.l, .slice x.ba x.bn x.bc, .slice x.ia x.m x.ic] 25))
  have HX := Hid.mk (lies_mono HBN.out _ x hx)
  have HXM := Hid.mk xm
  have HIH := Hid.mk ih
  have hbl := xag.l
  obtain ⟨xl', xba, xbn', xbc, xia, xm', xic'⟩ := x
  simp only at xl hbl xm xbn xm2 HBX HBN HX HXM
  subst xl
  clear hx xag xall ih xic xic2
  by_cases h21 : xl' = true ∧ 8 ≤ d
  · obtain ⟨rfl, h8⟩ := h21
    rw [if_pos (by simpa using h8)] at hres
    subst hres
    have h8i : (d : Int) ≥ 8 := by omega
    clear hbl xm
    go_enter Try.func21, Try.ntmps21
    go_wp2_with fail
    go_ret2
    exact ⟨rfl, HBN.out⟩
  rw [if_neg (fun h => h21 (by simpa using h))] at hres
  by_cases h23 : wrongForm xl' bs its = true
  · rw [if_pos h23] at hres
    subst hres
    cases xl' with
    | true =>
      have hb0 : (xbn' : Int) > 0 := by unfold wrongForm at h23; simp at h23; omega
      have h8i : ¬ (d : Int) ≥ 8 := by have : ¬ 8 ≤ d := fun h => h21 ⟨rfl, h⟩; omega
      clear hbl xm h23 h21
      go_enter Try.func21, Try.ntmps21
      go_wp2_with fail
      go_ret2
      exact ⟨rfl, HBN.out⟩
    | false =>
      have hb0 : (xm' : Int) > 0 := by unfold wrongForm at h23; simp at h23; omega
      clear hbl xm h23 h21
      go_enter Try.func21, Try.ntmps21
      go_wp2_with fail
      go_ret2
      exact ⟨rfl, HBN.out⟩
  rw [if_neg h23] at hres
  have HRES := Hid.mk hres
  clear hres
  have hwf := wrong_false (by simpa using h23)
  have hz : (xl' = true → xbn' = 0) ∧ (xl' = false → xm' = 0) := by
    cases xl' with
    | true =>
      have e : bs = [] := by simpa using hwf
      rw [e] at hbl
      exact ⟨fun _ => hbl.symm, fun h => Bool.noConfusion h⟩
    | false =>
      have e : its = [] := by simpa using hwf
      rw [e] at xm
      exact ⟨fun h => Bool.noConfusion h, fun _ => xm⟩
  have hwt : wt xl' bs d = if xl' && decide (d = 0) then 0 else max xbn' 1 := by rw [← hbl]; unfold wt; by_cases h0 : d = 0 <;> simp [h0]
  have hd8 : xl' = true → ¬ 8 ≤ d := fun h h8 => h21 ⟨h, h8⟩
  rw [hwt] at HRES
  obtain ⟨W0, hW0⟩ : ∃ W0, ww + (if xl' && decide (d = 0) then 0 else max xbn' 1) = W0 := ⟨_, rfl⟩
  rw [hW0] at HRES
  have hW0b : W0 ≤ 16777215 + 140737488351232 := by rw [← hW0]; split <;> omega
  have HH := Hid.mk hW0
  have HD8 := Hid.mk hd8
  obtain ⟨W, hW⟩ : ∃ W, w.alloc (.cells #[.bool xl', .slice xba xbn' xbc, .slice xia xm' xic'] 25) = W := ⟨_, rfl⟩
  have HWW := Hid.mk hW
  have hch : Hid (∀ v, Below W.heap.size W v → B1 w.heap.size v ⟨xl', xba, xbn', xbc, xia, xm', xic'⟩) := Hid.mk fun v hb => by rw [hW] at HBX; exact HBX.out.go hb
  rw [hW] at HBX HBN HX
  clear hbl xm h23 h21 hwf hwt hd8 hW0 hW
  cases xl' with
  | false =>
    have hm0 := hz.2 rfl
    subst hm0
    have hh := HH.out
    rw [if_neg (by simp)] at hh
    clear hz
    by_cases hb1 : 1 < xbn'
    · have hbi : (xbn' : Int) > 1 := by omega
      have hsum : (ww : Int) + xbn' = W0 := by omega
      clear hh
      by_cases hlong : 16777215 < W0
      · have hli : (W0 : Int) > 16777215 := by omega
        have hr := HRES.out
        rw [if_pos hlong] at hr
        subst hr
        go_enter Try.func21, Try.ntmps21
        go_wp2_with fail
        go_ret2
        exact ⟨rfl, by rw [HWW.out]; exact HBN.out⟩
      have hli : ¬ (W0 : Int) > 16777215 := by omega
      have hr := HRES.out
      rw [if_neg hlong] at hr
      have HR2 := Hid.mk hr
      clear hr HRES
      go_enter Try.func21, Try.ntmps21
      go_wp2_with fail
      rw [HWW.out]
      go_loopw [2, 8] (fun p q v => ∃ (u cur : Nat), u ≤ 0 ∧ q = .int .i64 u ∧ p = .int .i64 cur ∧ wks (its.take u) (d + 1) W0 = (cur, 0) ∧ cur ≤ 16777215 ∧ Below W.heap.size W v) (fun _ q _ => 0 - (intOf q).toNat)
      case atStart => exact ⟨0, W0, by omega, rfl, rfl, by rw [List.take_zero, wks_nil], by omega, Below.refl _ _⟩
      case round =>
        obtain ⟨u, cur, hu, rfl, rfl, hcur, hcb, hbv⟩ := hrel
        obtain ⟨c0, c1, c2⟩ := hch.out _ hbv
        simp only at c0 c1 c2
        have HBV := Hid.mk hbv
        have HCU := Hid.mk hcur
        clear hbv hcur
        have hui : ¬ (u : Int) < 0 := by omega
        have hr := HR2.out
        rw [← List.take_of_length_le (l := its) (i := u) (by rw [← HXM.out]; omega), HCU.out] at hr
        subst hr
        go_wp2_with fail
        go_ret2
        exact ⟨rfl, below_go HBN.out HBV.out⟩
    · have hbi : ¬ (xbn' : Int) > 1 := by omega
      have hsum : (ww : Int) + 1 = W0 := by omega
      clear hh
      by_cases hlong : 16777215 < W0
      · have hli : (W0 : Int) > 16777215 := by omega
        have hr := HRES.out
        rw [if_pos hlong] at hr
        subst hr
        go_enter Try.func21, Try.ntmps21
        go_wp2_with fail
        go_ret2
        exact ⟨rfl, by rw [HWW.out]; exact HBN.out⟩
      have hli : ¬ (W0 : Int) > 16777215 := by omega
      have hr := HRES.out
      rw [if_neg hlong] at hr
      have HR2 := Hid.mk hr
      clear hr HRES
      go_enter Try.func21, Try.ntmps21
      go_wp2_with fail
      rw [HWW.out]
      go_loopw [2, 8] (fun p q v => ∃ (u cur : Nat), u ≤ 0 ∧ q = .int .i64 u ∧ p = .int .i64 cur ∧ wks (its.take u) (d + 1) W0 = (cur, 0) ∧ cur ≤ 16777215 ∧ Below W.heap.size W v) (fun _ q _ => 0 - (intOf q).toNat)
      case atStart => exact ⟨0, W0, by omega, rfl, rfl, by rw [List.take_zero, wks_nil], by omega, Below.refl _ _⟩
      case round =>
        obtain ⟨u, cur, hu, rfl, rfl, hcur, hcb, hbv⟩ := hrel
        obtain ⟨c0, c1, c2⟩ := hch.out _ hbv
        simp only at c0 c1 c2
        have HBV := Hid.mk hbv
        have HCU := Hid.mk hcur
        clear hbv hcur
        have hui : ¬ (u : Int) < 0 := by omega
        have hr := HR2.out
        rw [← List.take_of_length_le (l := its) (i := u) (by rw [← HXM.out]; omega), HCU.out] at hr
        subst hr
        go_wp2_with fail
        go_ret2
        exact ⟨rfl, below_go HBN.out HBV.out⟩
  | true =>
    have hm0 := hz.1 rfl
    subst hm0
    have hh := HH.out
    have h8i : ¬ (d : Int) ≥ 8 := by have := HD8.out rfl; omega
    clear hz
    by_cases hd0 : d = 0
    · rw [if_pos (by simp [hd0])] at hh
      have hsum : (ww : Int) = W0 := by omega
      have hdi : ¬ (d : Int) > 0 := by omega
      clear hh hd0
      have hlong : ¬ 16777215 < W0 := by omega
      have hli : ¬ (W0 : Int) > 16777215 := by omega
      have hr := HRES.out
      rw [if_neg hlong] at hr
      have HR2 := Hid.mk hr
      clear hr HRES
      go_enter Try.func21, Try.ntmps21
      go_wp2_with fail
      rw [HWW.out]
      go_loopw [2, 8] (fun p q v => ∃ (u cur : Nat), u ≤ xm' ∧ q = .int .i64 u ∧ p = .int .i64 cur ∧ wks (its.take u) (d + 1) W0 = (cur, 0) ∧ cur ≤ 16777215 ∧ Below W.heap.size W v) (fun _ q _ => xm' - (intOf q).toNat)
      case atStart => exact ⟨0, W0, by omega, rfl, rfl, by rw [List.take_zero, wks_nil], by omega, Below.refl _ _⟩
      case round =>
        obtain ⟨u, cur, hu, rfl, rfl, hcur, hcb, hbv⟩ := hrel
        obtain ⟨c0, c1, c2⟩ := hch.out _ hbv
        simp only at c0 c1 c2
        have HBV := Hid.mk hbv
        have HCU := Hid.mk hcur
        clear hbv hcur
        by_cases hlt : u < xm'
        case pos =>
          have hui : (u : Int) < xm' := by omega
          obtain ⟨t, ht⟩ : ∃ t, its[u]? = some t := ⟨its[u]'(by have := HXM.out; omega), List.getElem?_eq_getElem _⟩
          obtain ⟨g, off, y, A⟩ := liesAll_at (lies_eq.1 HX.out).2.2.2.2.2.2 u t ht
          rw [Nat.zero_add] at A
          have ha : xia = some ⟨g, off, none⟩ := A.ha
          subst ha
          have y0 := below_cell HBV.out A.c0
          have y1 := below_cell HBV.out A.c1
          have y2 := below_cell HBV.out A.c2
          have hdd := HD8.out (by simp)
          have hcal := HIH.out t (List.mem_of_getElem? ht) y wr (d + 1) cur (lies_mono HBV.out t y A.li) (by omega) hcb
          rw [show ((d + 1 : Nat) : Int) = (d : Int) + 1 from by omega] at hcal
          have HC := Hid.mk hcal
          have HT := Hid.mk ht
          have hbnd := wk_bound (t := t) (d := d + 1) (w := cur) (by omega) hcb
          clear hcal ht A
          go_wp2_with fail
          refine HC.out.mono ?_
          rintro e w1 ⟨rfl, hb1⟩
          have HB1 := Hid.mk (below_go HBV.out hb1)
          clear hb1 HC
          by_cases h0 : (wk t (d + 1) cur).2 = 0
          · have hb0 := hbnd h0
            have hmore := wks_more HT.out HCU.out h0
            rw [h0]
            obtain ⟨c3, hc3⟩ : ∃ c3, (wk t (d + 1) cur).1 = c3 := ⟨_, rfl⟩
            rw [hc3] at hb0 hmore ⊢
            rw [show ((0 : Nat) : Int) = 0 from rfl]
            have HMO := Hid.mk hmore
            clear hbnd hmore h0 hc3
            go_wp2_with fail
            exact ⟨⟨u + 1, c3, by omega, by simp, rfl, HMO.out, by omega, HB1.out⟩, by simp [intOf]; omega⟩
          · have hfail := wks_fail HT.out HCU.out h0
            rw [HR2.out] at hfail
            subst hfail
            obtain ⟨c3, hc3⟩ : ∃ c3, (wk t (d + 1) cur).1 = c3 := ⟨_, rfl⟩
            obtain ⟨e3, he3⟩ : ∃ e3, (wk t (d + 1) cur).2 = e3 := ⟨_, rfl⟩
            rw [he3] at h0
            rw [hc3, he3]
            have hee : ((e3 : Int) != 0) = true := by rw [bne_iff_ne]; omega
            clear hbnd h0
            go_wp2_with fail
            go_ret2
            exact ⟨by rw [hc3, he3]; rfl, below_go HBN.out HB1.out⟩
        have hui : ¬ (u : Int) < xm' := by omega
        have hr := HR2.out
        rw [← List.take_of_length_le (l := its) (i := u) (by rw [← HXM.out]; omega), HCU.out] at hr
        subst hr
        go_wp2_with fail
        go_ret2
        exact ⟨rfl, below_go HBN.out HBV.out⟩
    · have hdi : (d : Int) > 0 := by omega
      rw [if_neg (by simp [hd0])] at hh
      have hsum : (ww : Int) + 1 = W0 := by omega
      clear hh
      by_cases hlong : 16777215 < W0
      · have hli : (W0 : Int) > 16777215 := by omega
        have hr := HRES.out
        rw [if_pos hlong] at hr
        subst hr
        go_enter Try.func21, Try.ntmps21
        go_wp2_with fail
        go_ret2
        exact ⟨rfl, by rw [HWW.out]; exact HBN.out⟩
      have hli : ¬ (W0 : Int) > 16777215 := by omega
      have hr := HRES.out
      rw [if_neg hlong] at hr
      have HR2 := Hid.mk hr
      clear hr HRES
      go_enter Try.func21, Try.ntmps21
      go_wp2_with fail
      rw [HWW.out]
      go_loopw [2, 8] (fun p q v => ∃ (u cur : Nat), u ≤ xm' ∧ q = .int .i64 u ∧ p = .int .i64 cur ∧ wks (its.take u) (d + 1) W0 = (cur, 0) ∧ cur ≤ 16777215 ∧ Below W.heap.size W v) (fun _ q _ => xm' - (intOf q).toNat)
      case atStart => exact ⟨0, W0, by omega, rfl, rfl, by rw [List.take_zero, wks_nil], by omega, Below.refl _ _⟩
      case round =>
        obtain ⟨u, cur, hu, rfl, rfl, hcur, hcb, hbv⟩ := hrel
        obtain ⟨c0, c1, c2⟩ := hch.out _ hbv
        simp only at c0 c1 c2
        have HBV := Hid.mk hbv
        have HCU := Hid.mk hcur
        clear hbv hcur
        by_cases hlt : u < xm'
        case pos =>
          have hui : (u : Int) < xm' := by omega
          obtain ⟨t, ht⟩ : ∃ t, its[u]? = some t := ⟨its[u]'(by have := HXM.out; omega), List.getElem?_eq_getElem _⟩
          obtain ⟨g, off, y, A⟩ := liesAll_at (lies_eq.1 HX.out).2.2.2.2.2.2 u t ht
          rw [Nat.zero_add] at A
          have ha : xia = some ⟨g, off, none⟩ := A.ha
          subst ha
          have y0 := below_cell HBV.out A.c0
          have y1 := below_cell HBV.out A.c1
          have y2 := below_cell HBV.out A.c2
          have hdd := HD8.out (by simp)
          have hcal := HIH.out t (List.mem_of_getElem? ht) y wr (d + 1) cur (lies_mono HBV.out t y A.li) (by omega) hcb
          rw [show ((d + 1 : Nat) : Int) = (d : Int) + 1 from by omega] at hcal
          have HC := Hid.mk hcal
          have HT := Hid.mk ht
          have hbnd := wk_bound (t := t) (d := d + 1) (w := cur) (by omega) hcb
          clear hcal ht A
          go_wp2_with fail
          refine HC.out.mono ?_
          rintro e w1 ⟨rfl, hb1⟩
          have HB1 := Hid.mk (below_go HBV.out hb1)
          clear hb1 HC
          by_cases h0 : (wk t (d + 1) cur).2 = 0
          · have hb0 := hbnd h0
            have hmore := wks_more HT.out HCU.out h0
            rw [h0]
            obtain ⟨c3, hc3⟩ : ∃ c3, (wk t (d + 1) cur).1 = c3 := ⟨_, rfl⟩
            rw [hc3] at hb0 hmore ⊢
            rw [show ((0 : Nat) : Int) = 0 from rfl]
            have HMO := Hid.mk hmore
            clear hbnd hmore h0 hc3
            go_wp2_with fail
            exact ⟨⟨u + 1, c3, by omega, by simp, rfl, HMO.out, by omega, HB1.out⟩, by simp [intOf]; omega⟩
          · have hfail := wks_fail HT.out HCU.out h0
            rw [HR2.out] at hfail
            subst hfail
            obtain ⟨c3, hc3⟩ : ∃ c3, (wk t (d + 1) cur).1 = c3 := ⟨_, rfl⟩
            obtain ⟨e3, he3⟩ : ∃ e3, (wk t (d + 1) cur).2 = e3 := ⟨_, rfl⟩
            rw [he3] at h0
            rw [hc3, he3]
            have hee : ((e3 : Int) != 0) = true := by rw [bne_iff_ne]; omega
            clear hbnd h0
            go_wp2_with fail
            go_ret2
            exact ⟨by rw [hc3, he3]; rfl, below_go HBN.out HB1.out⟩
        have hui : ¬ (u : Int) < xm' := by omega
        have hr := HR2.out
        rw [← List.take_of_length_le (l := its) (i := u) (by rw [← HXM.out]; omega), HCU.out] at hr
        subst hr
        go_wp2_with fail
        go_ret2
        exact ⟨rfl, below_go HBN.out HBV.out⟩
theorem walk_any : ∀ t, WalkSaid t := T.ind walk_step
end Go.Proofs.Ytkbdkenpblcofaa

/- What the document's walk answers: what is amiss with an item. -/
import Derived.Test.YtdkpilgelgjieaaGreatG10
import Derived.Test.YtdkpilgelgjieaaGreatG21
import Derived.Test.YtdkpilgelgjieaaGreatG02
import Derived.Test.YtdkpilgelgjieaaGreatG12
set_option linter.unusedVariables false
set_option maxRecDepth 100000
namespace Go.Proofs.YtdkpilgelgjieaaGreat
open Go.RowKit
def WalkSaid (t : T) : Prop := ∀ (x : V) (w : World) (d ww : Nat), Lies w t x -> d <= 8 -> ww <= 16777215 →
 Calls Tryz.prog 93 #[.agg #[.bool x.l, .slice x.ba x.bn x.bc, .slice x.ia x.m x.ic], .int .i64 d, .int .i64 ww] w fun e w' => e = .returned (.tuple #[.int .i64 ((wk t d ww).1 : Nat), .int .i64 ((wk t d ww).2 : Nat)]) /\ Below w.heap.size w w'
set_option maxRecDepth 20000 in
set_option maxHeartbeats 4000000 in
theorem Zq8 (l : Bool) (bs : List Int) (its : List T) (ih : ∀ t ∈ its, WalkSaid t) : WalkSaid (.mk l bs its) := by
 intro x w d ww hx hd hw
 obtain ⟨xl, xag, xm, xic, xic2, ⟨xbn, xm2⟩, xall⟩ := lies_eq.1 hx
 obtain ⟨res, hres⟩ : ∃ r, wk (.mk l bs its) d ww = r := ⟨_, rfl⟩
 rw [hres]
 rw [Zkj] at hres
 have HBX := Hid.mk (Zcy w x)
 have HBN := Hid.mk (below_new w (.cells #[.bool x.l, .slice x.ba x.bn x.bc, .slice x.ia x.m x.ic] 94))
 have HX := Hid.mk (Zaw HBN.out _ x hx)
 have HXM := Hid.mk xm
 have HIH := Hid.mk ih
 have hbl := xag.l
 obtain ⟨xl', xba, xbn', xbc, xia, xm', xic'⟩ := x
 simp only at xl hbl xm xbn xm2 HBX HBN HX HXM
 subst xl
 clear hx xag xall ih xic xic2
 by_cases h21 : xl' = true /\ 8 <= d
 ·obtain ⟨rfl, h8⟩ := h21
  rw [if_pos (by simpa using h8)] at hres
  subst hres
  have h8i : (d : Int) ≥ 8 := by omega
  clear hbl xm
  go_enter Tryz.func93, Tryz.ntmps93
  go_wp2_with fail
  go_ret2
  exact ⟨rfl, HBN.out⟩
 rw [if_neg (fun h => h21 (by simpa using h))] at hres
 by_cases h23 : wrongForm xl' bs its = true
 ·rw [if_pos h23] at hres
  subst hres
  cases xl' with
  | true =>
   have hb0 : (xbn' : Int) > 0 := by unfold wrongForm at h23; simp at h23; omega
   have h8i : ¬ (d : Int) ≥ 8 := by have : ¬ 8 <= d := fun h => h21 ⟨rfl, h⟩; omega
   clear hbl xm h23 h21
   go_enter Tryz.func93, Tryz.ntmps93
   go_wp2_with fail
   go_ret2
   exact ⟨rfl, HBN.out⟩
  | false =>
   have hb0 : (xm' : Int) > 0 := by unfold wrongForm at h23; simp at h23; omega
   clear hbl xm h23 h21
   go_enter Tryz.func93, Tryz.ntmps93
   go_wp2_with fail
   go_ret2
   exact ⟨rfl, HBN.out⟩
 rw [if_neg h23] at hres
 have HRES := Hid.mk hres
 clear hres
 have hwf := Zcm (by simpa using h23)
 have hz : (xl' = true -> xbn' = 0) /\ (xl' = false -> xm' = 0) := by
  cases xl' with
  | true =>
   have e : bs = [] := by simpa using hwf
   rw [e] at hbl
   exact ⟨fun _ => hbl.symm, fun h => Bool.noConfusion h⟩
  | false =>
   have e : its = [] := by simpa using hwf
   rw [e] at xm
   exact ⟨fun h => Bool.noConfusion h, fun _ => xm⟩
 have hwt : wt xl' bs d = if xl' && decide (d = 0) then 0 else max xbn' 1 := by rw [<- hbl]; unfold wt; by_cases h0 : d = 0 <;> simp [h0]
 have hd8 : xl' = true -> ¬ 8 <= d := fun h h8 => h21 ⟨h, h8⟩
 rw [hwt] at HRES
 obtain ⟨W0, hW0⟩ : ∃ W0, ww + (if xl' && decide (d = 0) then 0 else max xbn' 1) = W0 := ⟨_, rfl⟩
 rw [hW0] at HRES
 have hW0b : W0 <= 16777215 + 140737488351232 := by rw [<- hW0]; split <;> omega
 have HH := Hid.mk hW0
 have HD8 := Hid.mk hd8
 obtain ⟨W, hW⟩ : ∃ W, w.alloc (.cells #[.bool xl', .slice xba xbn' xbc, .slice xia xm' xic'] 94) = W := ⟨_, rfl⟩
 have HWW := Hid.mk hW
 have hch : Hid (∀ v, Below W.heap.size W v -> B1 w.heap.size v ⟨xl', xba, xbn', xbc, xia, xm', xic'⟩) := Hid.mk fun v hb => by rw [hW] at HBX; exact HBX.out.go hb
 rw [hW] at HBX HBN HX
 clear hbl xm h23 h21 hwf hwt hd8 hW0 hW
 cases xl' with
 | false =>
  have hm0 := hz.2 rfl
  subst hm0
  have hh := HH.out
  rw [if_neg (by simp)] at hh
  clear hz
  by_cases hb1 : 1 < xbn'
  ·have hbi : (xbn' : Int) > 1 := by omega
   have hsum : (ww : Int) + xbn' = W0 := by omega
   clear hh
   by_cases hlong : 16777215 < W0
   ·have hli : (W0 : Int) > 16777215 := by omega
    have hr := HRES.out
    rw [if_pos hlong] at hr
    subst hr
    go_enter Tryz.func93, Tryz.ntmps93
    go_wp2_with fail
    go_ret2
    exact ⟨rfl, by rw [HWW.out]; exact HBN.out⟩
   have hli : ¬ (W0 : Int) > 16777215 := by omega
   have hr := HRES.out
   rw [if_neg hlong] at hr
   have HR2 := Hid.mk hr
   clear hr HRES
   go_enter Tryz.func93, Tryz.ntmps93
   go_wp2_with fail
   rw [HWW.out]
   go_loopw [2, 8] (fun p q v => ∃ (u cur : Nat), u <= 0 /\ q = .int .i64 u /\ p = .int .i64 cur /\ wks (its.take u) (d + 1) W0 = (cur, 0) /\ cur <= 16777215 /\ Below W.heap.size W v) (fun _ q _ => 0 - (intOf q).toNat)
   case atStart => exact ⟨0, W0, by omega, rfl, rfl, by rw [List.take_zero, Zch], by omega, Below.refl _ _⟩
   case round =>
    obtain ⟨u, cur, hu, rfl, rfl, hcur, hcb, hbv⟩ := hrel
    obtain ⟨c0, c1, c2⟩ := hch.out _ hbv
    simp only at c0 c1 c2
    have HBV := Hid.mk hbv
    have HCU := Hid.mk hcur
    clear hbv hcur
    have hui : ¬ (u : Int) < 0 := by omega
    have hr := HR2.out
    rw [<- List.take_of_length_le (l := its) (i := u) (by rw [<- HXM.out]; omega), HCU.out] at hr
    subst hr
    go_wp2_with fail
    go_ret2
    exact ⟨rfl, below_go HBN.out HBV.out⟩
  ·have hbi : ¬ (xbn' : Int) > 1 := by omega
   have hsum : (ww : Int) + 1 = W0 := by omega
   clear hh
   by_cases hlong : 16777215 < W0
   ·have hli : (W0 : Int) > 16777215 := by omega
    have hr := HRES.out
    rw [if_pos hlong] at hr
    subst hr
    go_enter Tryz.func93, Tryz.ntmps93
    go_wp2_with fail
    go_ret2
    exact ⟨rfl, by rw [HWW.out]; exact HBN.out⟩
   have hli : ¬ (W0 : Int) > 16777215 := by omega
   have hr := HRES.out
   rw [if_neg hlong] at hr
   have HR2 := Hid.mk hr
   clear hr HRES
   go_enter Tryz.func93, Tryz.ntmps93
   go_wp2_with fail
   rw [HWW.out]
   go_loopw [2, 8] (fun p q v => ∃ (u cur : Nat), u <= 0 /\ q = .int .i64 u /\ p = .int .i64 cur /\ wks (its.take u) (d + 1) W0 = (cur, 0) /\ cur <= 16777215 /\ Below W.heap.size W v) (fun _ q _ => 0 - (intOf q).toNat)
   case atStart => exact ⟨0, W0, by omega, rfl, rfl, by rw [List.take_zero, Zch], by omega, Below.refl _ _⟩
   case round =>
    obtain ⟨u, cur, hu, rfl, rfl, hcur, hcb, hbv⟩ := hrel
    obtain ⟨c0, c1, c2⟩ := hch.out _ hbv
    simp only at c0 c1 c2
    have HBV := Hid.mk hbv
    have HCU := Hid.mk hcur
    clear hbv hcur
    have hui : ¬ (u : Int) < 0 := by omega
    have hr := HR2.out
    rw [<- List.take_of_length_le (l := its) (i := u) (by rw [<- HXM.out]; omega), HCU.out] at hr
    subst hr
    go_wp2_with fail
    go_ret2
    exact ⟨rfl, below_go HBN.out HBV.out⟩
 | true =>
  have hm0 := hz.1 rfl
  subst hm0
  have hh := HH.out
  have h8i : ¬ (d : Int) ≥ 8 := by have := HD8.out rfl; omega
  clear hz
  by_cases hd0 : d = 0
  ·rw [if_pos (by simp [hd0])] at hh
   have hsum : (ww : Int) = W0 := by omega
   have hdi : ¬ (d : Int) > 0 := by omega
   clear hh hd0
   have hlong : ¬ 16777215 < W0 := by omega
   have hli : ¬ (W0 : Int) > 16777215 := by omega
   have hr := HRES.out
   rw [if_neg hlong] at hr
   have HR2 := Hid.mk hr
   clear hr HRES
   go_enter Tryz.func93, Tryz.ntmps93
   go_wp2_with fail
   rw [HWW.out]
   go_loopw [2, 8] (fun p q v => ∃ (u cur : Nat), u <= xm' /\ q = .int .i64 u /\ p = .int .i64 cur /\ wks (its.take u) (d + 1) W0 = (cur, 0) /\ cur <= 16777215 /\ Below W.heap.size W v) (fun _ q _ => xm' - (intOf q).toNat)
   case atStart => exact ⟨0, W0, by omega, rfl, rfl, by rw [List.take_zero, Zch], by omega, Below.refl _ _⟩
   case round =>
    obtain ⟨u, cur, hu, rfl, rfl, hcur, hcb, hbv⟩ := hrel
    obtain ⟨c0, c1, c2⟩ := hch.out _ hbv
    simp only at c0 c1 c2
    have HBV := Hid.mk hbv
    have HCU := Hid.mk hcur
    clear hbv hcur
    by_cases hlt : u < xm'
    case pos =>
     have hui : (u : Int) < xm' := by omega
     obtain ⟨t, ht⟩ : ∃ t, its[u]? = some t := ⟨its[u]'(by have := HXM.out; omega), List.getElem?_eq_getElem _⟩
     obtain ⟨g, off, y, A⟩ := Zb3 (lies_eq.1 HX.out).2.2.2.2.2.2 u t ht
     rw [Nat.zero_add] at A
     have ha : xia = some ⟨g, off, none⟩ := A.ha
     subst ha
     have y0 := Zae HBV.out A.c0
     have y1 := Zae HBV.out A.c1
     have y2 := Zae HBV.out A.c2
     have hdd := HD8.out (by simp)
     have hcal := HIH.out t (List.mem_of_getElem? ht) y wr (d + 1) cur (Zaw HBV.out t y A.li) (by omega) hcb
     rw [show ((d + 1 : Nat) : Int) = (d : Int) + 1 from by omega] at hcal
     have HC := Hid.mk hcal
     have HT := Hid.mk ht
     have hbnd := Zkk (t := t) (d := d + 1) (w := cur) (by omega) hcb
     clear hcal ht A
     go_wp2_with fail
     refine HC.out.mono ?_
     rintro e w1 ⟨rfl, hb1⟩
     have HB1 := Hid.mk (below_go HBV.out hb1)
     clear hb1 HC
     by_cases h0 : (wk t (d + 1) cur).2 = 0
     ·have hb0 := hbnd h0
      have hmore := Zkh HT.out HCU.out h0
      rw [h0]
      obtain ⟨c3, hc3⟩ : ∃ c3, (wk t (d + 1) cur).1 = c3 := ⟨_, rfl⟩
      rw [hc3] at hb0 hmore ⊢
      rw [show ((0 : Nat) : Int) = 0 from rfl]
      have HMO := Hid.mk hmore
      clear hbnd hmore h0 hc3
      go_wp2_with fail
      exact ⟨⟨u + 1, c3, by omega, by simp, rfl, HMO.out, by omega, HB1.out⟩, by simp [intOf]; omega⟩
     ·have hfail := Zki HT.out HCU.out h0
      rw [HR2.out] at hfail
      subst hfail
      obtain ⟨c3, hc3⟩ : ∃ c3, (wk t (d + 1) cur).1 = c3 := ⟨_, rfl⟩
      obtain ⟨e3, he3⟩ : ∃ e3, (wk t (d + 1) cur).2 = e3 := ⟨_, rfl⟩
      rw [he3] at h0
      rw [hc3, he3]
      have hee : ((e3 : Int) != 0) = true := by rw [bne_iff_ne]; omega
      clear hbnd h0
      go_wp2_with fail
      go_ret2
      exact ⟨by rw [hc3, he3]; rfl, below_go HBN.out HB1.out⟩
    have hui : ¬ (u : Int) < xm' := by omega
    have hr := HR2.out
    rw [<- List.take_of_length_le (l := its) (i := u) (by rw [<- HXM.out]; omega), HCU.out] at hr
    subst hr
    go_wp2_with fail
    go_ret2
    exact ⟨rfl, below_go HBN.out HBV.out⟩
  ·have hdi : (d : Int) > 0 := by omega
   rw [if_neg (by simp [hd0])] at hh
   have hsum : (ww : Int) + 1 = W0 := by omega
   clear hh
   by_cases hlong : 16777215 < W0
   ·have hli : (W0 : Int) > 16777215 := by omega
    have hr := HRES.out
    rw [if_pos hlong] at hr
    subst hr
    go_enter Tryz.func93, Tryz.ntmps93
    go_wp2_with fail
    go_ret2
    exact ⟨rfl, by rw [HWW.out]; exact HBN.out⟩
   have hli : ¬ (W0 : Int) > 16777215 := by omega
   have hr := HRES.out
   rw [if_neg hlong] at hr
   have HR2 := Hid.mk hr
   clear hr HRES
   go_enter Tryz.func93, Tryz.ntmps93
   go_wp2_with fail
   rw [HWW.out]
   go_loopw [2, 8] (fun p q v => ∃ (u cur : Nat), u <= xm' /\ q = .int .i64 u /\ p = .int .i64 cur /\ wks (its.take u) (d + 1) W0 = (cur, 0) /\ cur <= 16777215 /\ Below W.heap.size W v) (fun _ q _ => xm' - (intOf q).toNat)
   case atStart => exact ⟨0, W0, by omega, rfl, rfl, by rw [List.take_zero, Zch], by omega, Below.refl _ _⟩
   case round =>
    obtain ⟨u, cur, hu, rfl, rfl, hcur, hcb, hbv⟩ := hrel
    obtain ⟨c0, c1, c2⟩ := hch.out _ hbv
    simp only at c0 c1 c2
    have HBV := Hid.mk hbv
    have HCU := Hid.mk hcur
    clear hbv hcur
    by_cases hlt : u < xm'
    case pos =>
     have hui : (u : Int) < xm' := by omega
     obtain ⟨t, ht⟩ : ∃ t, its[u]? = some t := ⟨its[u]'(by have := HXM.out; omega), List.getElem?_eq_getElem _⟩
     obtain ⟨g, off, y, A⟩ := Zb3 (lies_eq.1 HX.out).2.2.2.2.2.2 u t ht
     rw [Nat.zero_add] at A
     have ha : xia = some ⟨g, off, none⟩ := A.ha
     subst ha
     have y0 := Zae HBV.out A.c0
     have y1 := Zae HBV.out A.c1
     have y2 := Zae HBV.out A.c2
     have hdd := HD8.out (by simp)
     have hcal := HIH.out t (List.mem_of_getElem? ht) y wr (d + 1) cur (Zaw HBV.out t y A.li) (by omega) hcb
     rw [show ((d + 1 : Nat) : Int) = (d : Int) + 1 from by omega] at hcal
     have HC := Hid.mk hcal
     have HT := Hid.mk ht
     have hbnd := Zkk (t := t) (d := d + 1) (w := cur) (by omega) hcb
     clear hcal ht A
     go_wp2_with fail
     refine HC.out.mono ?_
     rintro e w1 ⟨rfl, hb1⟩
     have HB1 := Hid.mk (below_go HBV.out hb1)
     clear hb1 HC
     by_cases h0 : (wk t (d + 1) cur).2 = 0
     ·have hb0 := hbnd h0
      have hmore := Zkh HT.out HCU.out h0
      rw [h0]
      obtain ⟨c3, hc3⟩ : ∃ c3, (wk t (d + 1) cur).1 = c3 := ⟨_, rfl⟩
      rw [hc3] at hb0 hmore ⊢
      rw [show ((0 : Nat) : Int) = 0 from rfl]
      have HMO := Hid.mk hmore
      clear hbnd hmore h0 hc3
      go_wp2_with fail
      exact ⟨⟨u + 1, c3, by omega, by simp, rfl, HMO.out, by omega, HB1.out⟩, by simp [intOf]; omega⟩
     ·have hfail := Zki HT.out HCU.out h0
      rw [HR2.out] at hfail
      subst hfail
      obtain ⟨c3, hc3⟩ : ∃ c3, (wk t (d + 1) cur).1 = c3 := ⟨_, rfl⟩
      obtain ⟨e3, he3⟩ : ∃ e3, (wk t (d + 1) cur).2 = e3 := ⟨_, rfl⟩
      rw [he3] at h0
      rw [hc3, he3]
      have hee : ((e3 : Int) != 0) = true := by rw [bne_iff_ne]; omega
      clear hbnd h0
      go_wp2_with fail
      go_ret2
      exact ⟨by rw [hc3, he3]; rfl, below_go HBN.out HB1.out⟩
    have hui : ¬ (u : Int) < xm' := by omega
    have hr := HR2.out
    rw [<- List.take_of_length_le (l := its) (i := u) (by rw [<- HXM.out]; omega), HCU.out] at hr
    subst hr
    go_wp2_with fail
    go_ret2
    exact ⟨rfl, below_go HBN.out HBV.out⟩
theorem Zuf : ∀ t, WalkSaid t := T.ind Zq8
set_option maxHeartbeats 1000000 in
theorem Zdm (base n : Nat) (hb : base <= 192) (hn : n < 16777216) (w : World) :
  Calls Tryz.prog 108 #[.int .i64 base, .int .i64 n] w fun e w' => e = .returned (.slice (some ⟨w.heap.size, 0, none⟩) (hd base n).length (hd base n).length) /\ Row w.heap.size w' (hd base n) /\ Below w.heap.size w w' := by
 by_cases h5 : n <= 55
 ·have e : hd base n = [((base + n : Nat) : Int)] := by unfold hd; rw [if_pos h5]
  rw [e]
  have hi : (n : Int) <= 55 := by omega
  clear e
  go_enter Tryz.func108, Tryz.ntmps108
  go_wp2_with fail
  go_ret
  exact ⟨rfl, by unfold Row; rw [heap_alloc_new]; simp, (Below.refl _ _).alloc (Nat.le_refl _) _⟩
 have h5i : ¬ (n : Int) <= 55 := by omega
 by_cases h6 : n < 256
 ·have e : hd base n = [((base + 56 : Nat) : Int), (n : Int)] := by
   unfold hd; rw [if_neg h5, Zw1 (by omega) h6, Zos (by omega) h6]
  rw [e]
  have hi : (n : Int) < 256 := by omega
  clear e
  go_enter Tryz.func108, Tryz.ntmps108
  go_wp2_with fail
  go_ret
  exact ⟨rfl, by unfold Row; rw [heap_alloc_new]; simp, (Below.refl _ _).alloc (Nat.le_refl _) _⟩
 have h6i : ¬ (n : Int) < 256 := by omega
 by_cases h7 : n < 65536
 ·have e : hd base n = [((base + 57 : Nat) : Int), ((n / 256 : Nat) : Int), ((n % 256 : Nat) : Int)] := by
   unfold hd; rw [if_neg h5, Zw0 (by omega) h7, Zor (by omega) h7]
  rw [e]
  have hi : (n : Int) < 65536 := by omega
  have q1 : (n : Int) / 256 < 256 := by omega
  clear e
  go_enter Tryz.func108, Tryz.ntmps108
  go_wp2_with fail
  go_ret
  exact ⟨rfl, by unfold Row; rw [heap_alloc_new]; simp, (Below.refl _ _).alloc (Nat.le_refl _) _⟩
 have h7i : ¬ (n : Int) < 65536 := by omega
 have e : hd base n = [((base + 58 : Nat) : Int), ((n / 65536 : Nat) : Int), ((n / 256 % 256 : Nat) : Int), ((n % 256 : Nat) : Int)] := by
  unfold hd; rw [if_neg h5, Zvs (by omega) hn, Zhh (by omega) hn]
 rw [e]
 have q1 : (n : Int) / 65536 < 256 := by omega
 clear e
 go_enter Tryz.func108, Tryz.ntmps108
 go_wp2_with fail
 go_ret
 exact ⟨rfl, by unfold Row; rw [heap_alloc_new]; simp, (Below.refl _ _).alloc (Nat.le_refl _) _⟩
theorem Zr5 (w : World) (base : Nat) : OwnB w base (.slice none 0 0) [] := ⟨rfl, .inl ⟨rfl, rfl⟩⟩
theorem Zxf {w : World} {g : Nat} {bs : List Int} (h : Row g w bs) (base : Nat) (hb : base <= g) (hl : bs.length <= 1000) : OwnB w base (.slice (some ⟨g, 0, none⟩) bs.length bs.length) bs := by
 refine ⟨by rw [List.length_map, Nat.mul_one], .inr ⟨g, bs.length, _, rfl, hb, h, Nat.le_refl _, by unfold maxLen; omega, by simp, by rw [Nat.mul_one]; exact List.take_of_length_le (by simp)⟩⟩
theorem Zo4 {base n : Nat} (h : n < 16777216) : (hd base n).length <= 4 := by
 rw [hd_len]
 have := Zfs h
 split <;> omega
theorem hd_bd {base n : Nat} (hb : base <= 192) (hn : n < 16777216) : ∀ z ∈ hd base n, 0 <= z /\ z < 256 := by
 have h3 := Zfs hn
 unfold hd
 split
 ·intro z hz
  have e : z = ((base + n : Nat) : Int) := by simpa using hz
  omega
 ·intro z hz
  rcases List.mem_cons.1 hz with e | hz
  ·omega
  ·exact Zmv n z hz
def Nw (base : Nat) (a : Option Addr) : Prop := ∀ g off, a = some ⟨g, off, none⟩ -> base <= g
theorem OwnB.agn {w : World} {base : Nat} {v : Value} {bs : List Int} (h : OwnB w base v bs) (hb : ∀ x ∈ bs, 0 <= x /\ x < 256) : ∃ a cap, v = .slice a bs.length cap /\ Ag w a bs.length cap bs /\ Nw base a := by
 obtain ⟨a, cap, e, hag⟩ := OwnB.ag h hb
 refine ⟨a, cap, e, hag, fun g off ha => ?_⟩
 subst ha
 rw [e] at h
 exact OwnB.lt h g rfl
theorem Nw.mono {b b' : Nat} {a : Option Addr} (h : Nw b a) (hb : b' <= b) : Nw b' a := fun g off e => Nat.le_trans hb (h g off e)
def BytesSaid (t : T) : Prop := ∀ (x : V) (w : World), Lies w t x -> (bodyOf t).length <= 16777215 →
 Calls Tryz.prog 95 #[.agg #[.bool x.l, .slice x.ba x.bn x.bc, .slice x.ia x.m x.ic]] w fun e w' => (∃ a n c, e = .returned (.slice a n c) /\ Ag w' a n c (enc t) /\ (x.l = true -> Nw w.heap.size a)) /\ Below w.heap.size w w'
structure Gb (W : World) (B : Nat) (bs : List Int) (its : List T) (j : Nat) (q : Value) (v : World) (cur : List Int) : Prop where
 own : OwnB v B q cur
 eq : cur = bs ++ encs (its.take j)
 bel : Below B W v
 by8 : ∀ x ∈ cur, 0 <= x /\ x < 256
set_option maxHeartbeats 4000000 in
theorem Zp6 (l : Bool) (bs : List Int) (its : List T) (ih : ∀ t ∈ its, BytesSaid t) (x : V) (w : World) (hx : Lies w (.mk l bs its) x) (hlen : (bs ++ encs its).length <= 16777215) :
  Calls Tryz.prog 109 #[.agg #[.bool x.l, .slice x.ba x.bn x.bc, .slice x.ia x.m x.ic]] w fun e w' => (∃ a n c, e = .returned (.slice a n c) /\ Ag w' a n c (bs ++ encs its)) /\ Below w.heap.size w w' := by
 obtain ⟨xl, xag, xm, xic, xic2, ⟨xbn, xm2⟩, xall⟩ := lies_eq.1 hx
 have HBN := Hid.mk (below_new w (.cells #[.bool x.l, .slice x.ba x.bn x.bc, .slice x.ia x.m x.ic] 94))
 have HBX := Hid.mk (Zcy w x)
 have HX := Hid.mk (Zaw HBN.out _ x hx)
 have HAG := Hid.mk (xag.at HBN.out)
 have HXM := Hid.mk xm
 have HIH := Hid.mk ih
 have HLEN := Hid.mk hlen
 have hbl := xag.l
 rw [List.length_append] at hlen
 obtain ⟨W, hW⟩ : ∃ W, w.alloc (.cells #[.bool x.l, .slice x.ba x.bn x.bc, .slice x.ia x.m x.ic] 94) = W := ⟨_, rfl⟩
 have hsz : W.heap.size = w.heap.size + 1 := by rw [<- hW]; simp
 have HWW := Hid.mk hW
 rw [hW] at HBN HBX HX HAG
 clear hx xag xall xm xl ih xic xic2 hW
 obtain ⟨xl, xba, xbn', xbc, xia, xm', xic'⟩ := x
 simp only at xbn xm2 HBX HX HAG HXM hbl HWW
 obtain ⟨c0, c1, c2⟩ := HBX.out
 simp only at c0 c1 c2
 go_enter Tryz.func109, Tryz.ntmps109
 go_upto_region 2 with fail
 rw [HWW.out]
 go_wp2_with (first | (at_builtin; refine Zbx rfl (.tmp 5) (.tmp 7) rfl W.heap.size _ [] rfl (Zr5 W _) xba xbn' xbc bs rfl HAG.out.i HAG.out.nil HAG.out.l (by simp; omega) (Nat.le_refl _) ?_; intro v1 w1 o1 hb1; rw [List.nil_append] at o1; have HO1 := Hid.mk o1; have HB1 := Hid.mk hb1; clear o1 hb1))
 go_loopw [3, 4] (fun q i v => ∃ (j : Nat) (cur : List Int), j <= xm' /\ i = .int .i64 j /\ Gb W W.heap.size bs its j q v cur) (fun _ i _ => xm' - (intOf i).toNat)
 case atStart => exact ⟨0, bs, by omega, rfl, ⟨HO1.out, by rw [List.take_zero, Za2, List.append_nil], HB1.out, HAG.out.b⟩⟩
 case round =>
  clear HO1 HB1
  obtain ⟨j, cur, hj, rfl, G⟩ := hrel
  obtain ⟨d0, d1, d2⟩ := HBX.out.go G.bel
  simp only at d0 d1 d2
  have HG := Hid.mk G
  clear G
  by_cases hlt : j < xm'
  ·have hji : (j : Int) < xm' := by omega
   obtain ⟨t, ht⟩ : ∃ t, its[j]? = some t := ⟨its[j]'(by have := HXM.out; omega), List.getElem?_eq_getElem _⟩
   obtain ⟨g, off, y, A⟩ := Zb3 (lies_eq.1 HX.out).2.2.2.2.2.2 j t ht
   rw [Nat.zero_add] at A
   have ha : xia = some ⟨g, off, none⟩ := A.ha
   subst ha
   have y0 := Zae HG.out.bel A.c0
   have y1 := Zae HG.out.bel A.c1
   have y2 := Zae HG.out.bel A.c2
   have hmem := List.mem_of_getElem? ht
   have a1 := Zc8 t
   have a2 := Zc7 hmem
   have hcal := HIH.out t hmem y wr (Zaw HG.out.bel t y A.li) (by omega)
   have hcl : (cur ++ enc t).length <= 16777215 := by
    rw [HG.out.eq, List.append_assoc]
    have e1 : encs (its.take (j + 1)) = encs (its.take j) ++ enc t := by rw [Zbq ht, Zcq, Za7, Za2, List.append_nil]
    have e2 : (encs (its.take (j + 1) ++ its.drop (j + 1))).length = (encs its).length := by rw [List.take_append_drop]
    rw [Zcq, List.length_append, e1, List.length_append] at e2
    rw [List.length_append, List.length_append]
    omega
   rw [List.length_append] at hcl
   have HC := Hid.mk hcal
   have HT := Hid.mk ht
   clear hcal ht A a1 a2 hmem
   go_wp2_with fail
   refine HC.out.mono ?_
   rintro e w1 ⟨⟨a1, n1, c1', rfl, hag1, -⟩, hb1⟩
   have hl1 := hag1.l
   have HA1 := Hid.mk hag1
   have HO1 := Hid.mk (HG.out.own.below hb1)
   have hbb := HG.out.bel.trans (hb1.mono HG.out.bel.size)
   have HB1 := Hid.mk hbb
   have HMEM := Hid.mk (Znm HG.out.by8 hag1.b)
   clear hag1 hb1 hbb HC d0 d1 d2 c0 c1 c2
   go_wp2_with (first | (at_builtin; refine Zbx rfl (.tmp 16) (.tmp 22) rfl W.heap.size _ cur rfl HO1.out a1 n1 c1' (enc t) rfl HA1.out.i HA1.out.nil HA1.out.l (by omega) HB1.out.size ?_; intro v2 w2 o2 hb2; obtain ⟨a2, c2', rfl, hag2⟩ := OwnB.ag o2 HMEM.out; have HO2 := Hid.mk o2; have HB2 := Hid.mk (HB1.out.trans hb2); clear o2 hb2 hag2; generalize hgl : (cur ++ enc t).length = len2 at HO2 ⊢; clear hgl))
   refine ⟨⟨j + 1, cur ++ enc t, by omega, by simp, ⟨HO2.out, ?_, HB2.out, HMEM.out⟩⟩, by simp [intOf]; omega⟩
   rw [HG.out.eq, Zbq HT.out, Zcq, Za7, Za2, List.append_nil, List.append_assoc]
  ·have hji : ¬ (j : Int) < xm' := by omega
   have htk : its.take j = its := List.take_of_length_le (by rw [<- HXM.out]; omega)
   have heq := HG.out.eq
   rw [htk] at heq
   subst heq
   obtain ⟨ba, bc, hq, hagb⟩ := OwnB.ag HG.out.own HG.out.by8
   subst hq
   have HAB := Hid.mk hagb
   obtain ⟨L, hL⟩ : ∃ L, (bs ++ encs its).length = L := ⟨_, rfl⟩
   rw [hL] at HAB ⊢
   clear hagb htk hL
   go_wp2_with fail
   go_ret
   exact ⟨⟨_, _, _, rfl, HAB.out⟩, HBN.out.trans (HG.out.bel.mono (by omega))⟩
set_option maxHeartbeats 4000000 in
theorem Znf (l : Bool) (bs : List Int) (its : List T) (ih : ∀ t ∈ its, BytesSaid t) : BytesSaid (.mk l bs its) := by
 intro x w hx hlen
 have hlen2 : (bs ++ encs its).length <= 16777215 := hlen
 have xl := (lies_eq.1 hx).1
 have HBN := Hid.mk (below_new w (.cells #[.bool x.l, .slice x.ba x.bn x.bc, .slice x.ia x.m x.ic] 94))
 have HBX := Hid.mk (Zcy w x)
 have hcal := Zp6 l bs its ih x _ (Zaw HBN.out _ x hx) hlen2
 have HC := Hid.mk hcal
 have henc := Zcl l bs its
 obtain ⟨body, hbody⟩ : ∃ body, bs ++ encs its = body := ⟨_, rfl⟩
 rw [hbody] at HC henc hlen2
 obtain ⟨E, hE⟩ : ∃ E, enc (.mk l bs its) = E := ⟨_, rfl⟩
 rw [hE]
 rw [hE] at henc
 have HEN := Hid.mk henc
 obtain ⟨xl', xba, xbn, xbc, xia, xm, xic⟩ := x
 simp only at xl HC HBX HBN
 subst xl
 clear hx hcal henc hbody hlen ih hE
 go_enter Tryz.func95, Tryz.ntmps95
 go_wp2_with fail
 refine HC.out.mono ?_
 rintro e w1 ⟨⟨a1, n1, c1, rfl, hag1⟩, hb1⟩
 obtain ⟨d0, d1, d2⟩ := HBX.out.go hb1
 simp only at d0 d1 d2
 have HB1 := Hid.mk (below_go HBN.out hb1)
 have hl1 := hag1.l
 have HA1 := Hid.mk hag1
 have hfull : ∀ (base : Nat), base = baseOf xl' -> base <= 192 -> ∀ w2, Below w1.heap.size w1 w2 -> Row w1.heap.size w2 (hd base n1) -> OwnB w2 w1.heap.size (.slice (some ⟨w1.heap.size, 0, none⟩) (hd base n1).length (hd base n1).length) (hd base n1) /\ (hd base n1).length <= 4 /\ ∀ z ∈ hd base n1 ++ body, 0 <= z /\ z < 256 := by
  intro base _ hb w2 _ hrow
  have h4 := Zo4 (base := base) (n := n1) (by omega)
  exact ⟨Zxf hrow _ (Nat.le_refl _) (by omega), h4, Znm (hd_bd hb (by omega)) hag1.b⟩
 have HF := Hid.mk hfull
 clear hag1 hb1 HC hfull HBX HBN
 have hn24 : n1 < 16777216 := by omega
 by_cases hbare : bare xl' body = true
 ·have hbr := hbare
  unfold bare at hbr
  simp only [Bool.and_eq_true, decide_eq_true_eq] at hbr
  obtain ⟨b1, b2, b3⟩ := hbr
  have bx : xl' = false := by simpa using b1
  subst bx
  have hn1 : n1 = 1 := by omega
  subst hn1
  have HRE : Hid (E = body) := Hid.mk (by rw [HEN.out, if_pos hbare])
  obtain ⟨g, off, rfl, hc1, hc2, hc⟩ := ag_head HA1.out (by omega)
  unfold maxLen at hc2
  have hc0 := hc 0 (by omega)
  rw [Nat.add_zero] at hc0
  have hh : body.getD 0 0 = body.headD 0 := by cases body <;> rfl
  have hz := (HA1.out.b (body.getD 0 0) (by rw [List.getD, List.getElem?_eq_getElem (by omega)]; exact List.getElem_mem _)).1
  rw [<- hh] at b3
  generalize body.getD 0 0 = z at *
  clear hc hbare b1 b2 hh hl1
  go_wp2_with fail
  go_ret
  exact ⟨⟨_, _, _, rfl, by rw [HRE.out]; exact HA1.out, by first | exact (fun h => by cases h) | simp⟩, HB1.out⟩
 cases xl' with
 | true =>
  have HRE : Hid (E = hd 192 n1 ++ body) := Hid.mk (by rw [HEN.out, if_neg hbare, hl1]; rfl)
  clear hbare hl1
  go_wp2_with fail
  refine (Zdm 192 n1 (by decide) (by omega) _).mono ?_
  rintro e w2 ⟨rfl, hrow, hb2⟩
  obtain ⟨o2, h4, h256⟩ := HF.out 192 rfl (by decide) w2 hb2 hrow
  have HO2 := Hid.mk o2
  have H256 := Hid.mk h256
  have HA2 := Hid.mk (HA1.out.at hb2)
  have HB2 := Hid.mk (below_go HB1.out hb2)
  have hz := HB1.out.size
  have hz2 := hb2.size
  obtain ⟨K, hK⟩ : ∃ K, (hd 192 n1).length = K := ⟨_, rfl⟩
  rw [hK] at HO2 h4 ⊢
  have HKK := Hid.mk hK
  clear o2 h256 hrow hb2 hK
  go_wp2_with (first | (at_builtin; refine Zbx rfl (.tmp 29) (.tmp 30) rfl w1.heap.size _ (hd 192 n1) rfl HO2.out _ n1 c1 body rfl HA2.out.i HA2.out.nil HA2.out.l (by rw [HKK.out]; omega) hz2 ?_; intro v3 w3 o3 hb3; obtain ⟨a3, c3, rfl, hag3, hnw3⟩ := OwnB.agn o3 H256.out; have HNW := Hid.mk (hnw3.mono hz); have HA3 := Hid.mk hag3; have HB3 := Hid.mk (HB2.out.trans (hb3.mono hz)); clear o3 hag3 hb3 hnw3; generalize hgl : (hd 192 n1 ++ body).length = len3 at HA3 ⊢; clear hgl))
  go_ret
  exact ⟨⟨_, _, _, rfl, by rw [HRE.out]; exact HA3.out, by first | exact HNW.out | exact fun _ => HNW.out⟩, HB3.out⟩
 | false =>
  have HRE : Hid (E = hd 128 n1 ++ body) := Hid.mk (by rw [HEN.out, if_neg hbare, hl1]; rfl)
  by_cases hn1 : n1 = 1
  ·have hnb : ((n1 : Int) == 1) = true := by rw [beq_iff_eq]; omega
   have hnp : 0 < n1 := by omega
   obtain ⟨g, off, rfl, hc1, hc2, hc⟩ := ag_head HA1.out (by omega)
   unfold maxLen at hc2
   have hc0 := hc 0 (by omega)
   rw [Nat.add_zero] at hc0
   have hh : body.getD 0 0 = body.headD 0 := by cases body <;> rfl
   have hz := (HA1.out.b (body.getD 0 0) (by rw [List.getD, List.getElem?_eq_getElem (by omega)]; exact List.getElem_mem _)).2
   have hge : ¬ body.getD 0 0 < 128 := fun h => hbare (by unfold bare; rw [<- hh, decide_eq_true h, decide_eq_true (show body.length = 1 by omega)]; rfl)
   generalize body.getD 0 0 = z at *
   clear hc hbare hh hl1 hn1
   go_wp2_with fail
   refine (Zdm 128 n1 (by decide) (by omega) _).mono ?_
   rintro e w2 ⟨rfl, hrow, hb2⟩
   obtain ⟨o2, h4, h256⟩ := HF.out 128 rfl (by decide) w2 hb2 hrow
   have HO2 := Hid.mk o2
   have H256 := Hid.mk h256
   have HA2 := Hid.mk (HA1.out.at hb2)
   have HB2 := Hid.mk (below_go HB1.out hb2)
   have hz := HB1.out.size
   have hz2 := hb2.size
   obtain ⟨K, hK⟩ : ∃ K, (hd 128 n1).length = K := ⟨_, rfl⟩
   rw [hK] at HO2 h4 ⊢
   have HKK := Hid.mk hK
   clear o2 h256 hrow hb2 hK
   go_wp2_with (first | (at_builtin; refine Zbx rfl (.tmp 29) (.tmp 30) rfl w1.heap.size _ (hd 128 n1) rfl HO2.out _ n1 c1 body rfl HA2.out.i HA2.out.nil HA2.out.l (by rw [HKK.out]; omega) hz2 ?_; intro v3 w3 o3 hb3; obtain ⟨a3, c3, rfl, hag3⟩ := OwnB.ag o3 H256.out; have HA3 := Hid.mk hag3; have HB3 := Hid.mk (HB2.out.trans (hb3.mono hz)); clear o3 hag3 hb3; generalize hgl : (hd 128 n1 ++ body).length = len3 at HA3 ⊢; clear hgl))
   go_ret
   exact ⟨⟨_, _, _, rfl, by rw [HRE.out]; exact HA3.out, by first | exact (fun h => by cases h) | simp⟩, HB3.out⟩
  ·have hnb : ((n1 : Int) == 1) = false := by rw [beq_eq_false_iff_ne]; omega
   clear hbare hl1
   go_wp2_with fail
   refine (Zdm 128 n1 (by decide) (by omega) _).mono ?_
   rintro e w2 ⟨rfl, hrow, hb2⟩
   obtain ⟨o2, h4, h256⟩ := HF.out 128 rfl (by decide) w2 hb2 hrow
   have HO2 := Hid.mk o2
   have H256 := Hid.mk h256
   have HA2 := Hid.mk (HA1.out.at hb2)
   have HB2 := Hid.mk (below_go HB1.out hb2)
   have hz := HB1.out.size
   have hz2 := hb2.size
   obtain ⟨K, hK⟩ : ∃ K, (hd 128 n1).length = K := ⟨_, rfl⟩
   rw [hK] at HO2 h4 ⊢
   have HKK := Hid.mk hK
   clear o2 h256 hrow hb2 hK
   go_wp2_with (first | (at_builtin; refine Zbx rfl (.tmp 29) (.tmp 30) rfl w1.heap.size _ (hd 128 n1) rfl HO2.out _ n1 c1 body rfl HA2.out.i HA2.out.nil HA2.out.l (by rw [HKK.out]; omega) hz2 ?_; intro v3 w3 o3 hb3; obtain ⟨a3, c3, rfl, hag3⟩ := OwnB.ag o3 H256.out; have HA3 := Hid.mk hag3; have HB3 := Hid.mk (HB2.out.trans (hb3.mono hz)); clear o3 hag3 hb3; generalize hgl : (hd 128 n1 ++ body).length = len3 at HA3 ⊢; clear hgl))
   go_ret
   exact ⟨⟨_, _, _, rfl, by rw [HRE.out]; exact HA3.out, by first | exact (fun h => by cases h) | simp⟩, HB3.out⟩
theorem Zp5 : ∀ t, BytesSaid t := T.ind Znf
mutual
def rsz : T -> Nat
 | .mk l bs its => if bare l bs then 1 else if 16777215 < (if l then 0 else bs.length) + rszs its then (if l then 0 else bs.length) + rszs its else szOf true [] ((if l then 0 else bs.length) + rszs its)
def rszs : List T -> Nat
 | [] => 0
 | t :: r => rsz t + rszs r
end
theorem Zv8 (l : Bool) (bs : List Int) (its : List T) : rsz (.mk l bs its) = if bare l bs then 1 else if 16777215 < (if l then 0 else bs.length) + rszs its then (if l then 0 else bs.length) + rszs its else szOf true [] ((if l then 0 else bs.length) + rszs its) := by rw [rsz]
theorem Zd0 : rszs [] = 0 := by rw [rszs]
theorem Zfj (t : T) (r : List T) : rszs (t :: r) = rsz t + rszs r := by rw [rszs]
theorem Ze8 : ∀ a b : List T, rszs (a ++ b) = rszs a + rszs b
 | [], b => by rw [Zd0]; simp
 | t :: r, b => by rw [List.cons_append, Zfj, Zfj, Ze8 r b]; omega
theorem Zlo {its : List T} {k : Nat} {t : T} (h : its[k]? = some t) : rszs (its.take (k + 1)) = rszs (its.take k) + rsz t := by
 rw [Zbq h, Ze8, Zfj, Zd0]
 rfl
def Like (a b : Nat) : Prop := a = b \/ (16777215 < a /\ 16777215 < b /\ a <= b)
theorem Zfi : ∀ {its : List T}, (∀ t ∈ its, Like (rsz t) (sz t)) -> Like (rszs its) (szs its)
 | [], _ => by rw [Zd0, Zdz]; exact .inl rfl
 | t :: r, h => by
  rw [Zfj, Zeo]
  have h1 := h t (List.mem_cons_self ..)
  have h2 := Zfi fun u hu => h u (List.mem_cons_of_mem _ hu)
  unfold Like at *
  omega
theorem Zli (n : Nat) : szOf true [] n = 1 + n + (if 55 < n then nb n else 0) := by unfold szOf bare; simp
theorem Zob : ∀ t, form t = true -> Like (rsz t) (sz t) := by
 refine T.ind fun l bs its ih h => ?_
 rw [Zv8, Zuj]
 cases l with
 | false =>
  have hi := Zb8 h
  subst hi
  rw [Zd0, Zdz]
  simp only [Bool.false_eq_true, if_false, Nat.add_zero]
  by_cases hb : bare false bs = true
  ·rw [if_pos hb]
   unfold szOf
   rw [if_pos hb]
   unfold bare at hb
   simp only [Bool.and_eq_true, decide_eq_true_eq] at hb
   exact .inl hb.2.1.symm
  ·rw [if_neg hb]
   have e : szOf false bs bs.length = szOf true [] bs.length := by rw [Zli]; unfold szOf; rw [if_neg hb]
   rw [e]
   by_cases hm : 16777215 < bs.length
   ·rw [if_pos hm]
    have := Zkn true [] bs.length
    exact .inr ⟨hm, by omega, this⟩
   ·rw [if_neg hm]; exact .inl rfl
 | true =>
  obtain ⟨hb, hf⟩ := Zct h
  subst hb
  have hk := Zfi fun t ht => ih t ht (Zbl hf t ht)
  rw [if_neg (by simp [bare]), if_pos rfl, Nat.zero_add, show ([] : List Int).length + szs its = szs its from by simp]
  have hg := Zkn true [] (szs its)
  unfold Like at *
  rcases hk with hk | ⟨h1, h2, h3⟩
  ·rw [hk]
   by_cases hm : 16777215 < szs its
   ·rw [if_pos hm]; exact .inr ⟨hm, by omega, hg⟩
   ·rw [if_neg hm]; exact .inl rfl
  ·rw [if_pos h1]; exact .inr ⟨h1, by omega, by omega⟩
theorem Zxe {its : List T} (h : forms its = true) : rszs its <= szs its := by
 have := Zfi fun t ht => Zob t (Zbl h t ht)
 unfold Like at this; omega
theorem Zln {its : List T} (k : Nat) : rszs (its.take k) <= rszs its := by
 have e := Ze8 (its.take k) (its.drop k)
 rw [List.take_append_drop] at e
 omega
theorem Zm3 {n : Nat} : szOf true [] n = n + (hd 0 n).length := by
 rw [Zli, hd_len]
 split <;> omega
def SizeSaid (t : T) : Prop := ∀ (x : V) (w : World), Lies w t x -> form t = true -> rsz t <= 1000000000000 →
 Calls Tryz.prog 94 #[.agg #[.bool x.l, .slice x.ba x.bn x.bc, .slice x.ia x.m x.ic]] w fun e w' => e = .returned (.int .i64 (rsz t : Nat)) /\ Below w.heap.size w w'
set_option maxHeartbeats 4000000 in
theorem Zrj (l : Bool) (bs : List Int) (its : List T) (ih : ∀ t ∈ its, SizeSaid t) : SizeSaid (.mk l bs its) := by
 intro x w hx hf hbig
 obtain ⟨xl, xag, xm, xic, xic2, ⟨xbn, xm2⟩, xall⟩ := lies_eq.1 hx
 have HBN := Hid.mk (below_new w (.cells #[.bool x.l, .slice x.ba x.bn x.bc, .slice x.ia x.m x.ic] 94))
 have HBX := Hid.mk (Zcy w x)
 have HX := Hid.mk (Zaw HBN.out _ x hx)
 have HAG := Hid.mk (xag.at HBN.out)
 have HXM := Hid.mk xm
 have HIH := Hid.mk ih
 have hbl := xag.l
 have hre := Zv8 l bs its
 obtain ⟨R0, hR0⟩ : ∃ R0, rsz (.mk l bs its) = R0 := ⟨_, rfl⟩
 rw [hR0]
 rw [hR0] at hre hbig
 obtain ⟨xl', xba, xbn', xbc, xia, xm', xic'⟩ := x
 simp only at xl xbn xm2 HBX HBN HX HAG HXM hbl xm
 subst xl
 obtain ⟨W, hW⟩ : ∃ W, w.alloc (.cells #[.bool xl', .slice xba xbn' xbc, .slice xia xm' xic'] 94) = W := ⟨_, rfl⟩
 have HWW := Hid.mk hW
 rw [hW] at HBN HBX HX HAG
 clear hx xag xall ih xic xic2 hW hR0
 cases xl' with
 | false =>
  have hi := Zb8 hf
  subst hi
  have hm0 : xm' = 0 := xm
  subst hm0
  simp only [Bool.false_eq_true, if_false, Zd0, Nat.add_zero] at hre
  by_cases hbare : bare false bs = true
  ·rw [if_pos hbare] at hre
   subst hre
   unfold bare at hbare
   simp only [Bool.and_eq_true, decide_eq_true_eq] at hbare
   obtain ⟨_, b2, b3⟩ := hbare
   have hn1 : xbn' = 1 := by omega
   subst hn1
   obtain ⟨g, off, rfl, hc1, hc2, hc⟩ := ag_head HAG.out (by omega)
   unfold maxLen at hc2
   have hc0 := hc 0 (by omega)
   rw [Nat.add_zero, <- HWW.out] at hc0
   have hh : bs.getD 0 0 = bs.headD 0 := by cases bs <;> rfl
   have hz := (HAG.out.b (bs.getD 0 0) (by rw [List.getD, List.getElem?_eq_getElem (by omega)]; exact List.getElem_mem _)).1
   rw [<- hh] at b3
   generalize bs.getD 0 0 = z at *
   clear hc hh b2 hbl hf xm
   go_enter Tryz.func94, Tryz.ntmps94
   go_wp2_with fail
   go_ret
   exact ⟨rfl, by rw [HWW.out]; exact HBN.out⟩
  rw [if_neg hbare, hbl] at hre
  have HR0 := Hid.mk hre.symm
  clear hre
  by_cases hn1 : xbn' = 1
  ·have hnb : ((xbn' : Int) == 1) = true := by rw [beq_iff_eq]; omega
   have hnp : 0 < xbn' := by omega
   obtain ⟨g, off, rfl, hc1, hc2, hc⟩ := ag_head HAG.out (by omega)
   unfold maxLen at hc2
   have hc0 := hc 0 (by omega)
   rw [Nat.add_zero, <- HWW.out] at hc0
   have hh : bs.getD 0 0 = bs.headD 0 := by cases bs <;> rfl
   have hz := (HAG.out.b (bs.getD 0 0) (by rw [List.getD, List.getElem?_eq_getElem (by omega)]; exact List.getElem_mem _)).2
   have hge : ¬ bs.getD 0 0 < 128 := fun h => hbare (by unfold bare; rw [<- hh, decide_eq_true h, decide_eq_true (show bs.length = 1 by omega)]; rfl)
   generalize bs.getD 0 0 = z at *
   clear hc hh hbl hf xm hbare hn1
   go_enter Tryz.func94, Tryz.ntmps94
   go_wp2_with fail
   rw [HWW.out]
   go_loopw [3, 4] (fun p q v => p = .int .i64 xbn' /\ q = .int .i64 0 /\ Below W.heap.size W v) (fun _ _ _ => 0)
   case atStart => exact ⟨rfl, rfl, Below.refl _ _⟩
   case round =>
    obtain ⟨rfl, rfl, hbv⟩ := hrel
    obtain ⟨d0, d1, d2⟩ := HBX.out.go hbv
    simp only at d0 d1 d2
    have HBV := Hid.mk hbv
    clear hbv
    by_cases hmax : 16777215 < xbn'
    ·have hmi : (xbn' : Int) > 16777215 := by omega
     have e : R0 = xbn' := by rw [<- HR0.out, if_pos hmax]
     subst e
     go_wp2_with fail
     go_ret
     exact ⟨rfl, below_go HBN.out HBV.out⟩
    ·have hmi : ¬ (xbn' : Int) > 16777215 := by omega
     have e : R0 = xbn' + (hd 0 xbn').length := by rw [<- HR0.out, if_neg hmax, Zm3]
     have h4 := Zo4 (base := 0) (n := xbn') (by omega)
     have hcal := Zdm 0 xbn' (by omega) (by omega) wr
     rw [show ((0 : Nat) : Int) = 0 from rfl] at hcal
     obtain ⟨K, hK⟩ : ∃ K, (hd 0 xbn').length = K := ⟨_, rfl⟩
     rw [hK] at hcal e h4
     subst e
     have HC := Hid.mk hcal
     clear hcal hK
     go_wp2_with fail
     refine HC.out.mono ?_
     rintro e w2 ⟨rfl, _, hb2⟩
     have HB2 := Hid.mk (below_go HBV.out hb2)
     clear hb2
     go_wp2_with fail
     go_ret
     exact ⟨by simp, below_go HBN.out HB2.out⟩
  ·have hnb : ((xbn' : Int) == 1) = false := by rw [beq_eq_false_iff_ne]; omega
   clear hbl hf xm hbare
   go_enter Tryz.func94, Tryz.ntmps94
   go_wp2_with fail
   rw [HWW.out]
   go_loopw [3, 4] (fun p q v => p = .int .i64 xbn' /\ q = .int .i64 0 /\ Below W.heap.size W v) (fun _ _ _ => 0)
   case atStart => exact ⟨rfl, rfl, Below.refl _ _⟩
   case round =>
    obtain ⟨rfl, rfl, hbv⟩ := hrel
    obtain ⟨d0, d1, d2⟩ := HBX.out.go hbv
    simp only at d0 d1 d2
    have HBV := Hid.mk hbv
    clear hbv
    by_cases hmax : 16777215 < xbn'
    ·have hmi : (xbn' : Int) > 16777215 := by omega
     have e : R0 = xbn' := by rw [<- HR0.out, if_pos hmax]
     subst e
     go_wp2_with fail
     go_ret
     exact ⟨rfl, below_go HBN.out HBV.out⟩
    ·have hmi : ¬ (xbn' : Int) > 16777215 := by omega
     have e : R0 = xbn' + (hd 0 xbn').length := by rw [<- HR0.out, if_neg hmax, Zm3]
     have h4 := Zo4 (base := 0) (n := xbn') (by omega)
     have hcal := Zdm 0 xbn' (by omega) (by omega) wr
     rw [show ((0 : Nat) : Int) = 0 from rfl] at hcal
     obtain ⟨K, hK⟩ : ∃ K, (hd 0 xbn').length = K := ⟨_, rfl⟩
     rw [hK] at hcal e h4
     subst e
     have HC := Hid.mk hcal
     clear hcal hK
     go_wp2_with fail
     refine HC.out.mono ?_
     rintro e w2 ⟨rfl, _, hb2⟩
     have HB2 := Hid.mk (below_go HBV.out hb2)
     clear hb2
     go_wp2_with fail
     go_ret
     exact ⟨by simp, below_go HBN.out HB2.out⟩
 | true =>
  obtain ⟨hb, hfs⟩ := Zct hf
  subst hb
  simp only [if_true, Nat.zero_add] at hre
  rw [if_neg (by simp [bare])] at hre
  have HR0 := Hid.mk hre.symm
  have HFS := Hid.mk hfs
  have hrb : rszs its <= 1000000000000 := by
   rw [hre] at hbig
   split at hbig
   ·exact hbig
   ·have := Zkn true [] (rszs its); omega
  clear hre hf hfs hbl xm
  go_enter Tryz.func94, Tryz.ntmps94
  go_wp2_with fail
  rw [HWW.out]
  go_loopw [3, 4] (fun p q v => ∃ u : Nat, u <= xm' /\ q = .int .i64 u /\ p = .int .i64 (rszs (its.take u) : Nat) /\ Below W.heap.size W v) (fun _ q _ => xm' - (intOf q).toNat)
  case atStart => exact ⟨0, by omega, rfl, by rw [List.take_zero, Zd0]; rfl, Below.refl _ _⟩
  case round =>
   obtain ⟨u, hu, rfl, rfl, hbv⟩ := hrel
   obtain ⟨d0, d1, d2⟩ := HBX.out.go hbv
   simp only at d0 d1 d2
   have HBV := Hid.mk hbv
   clear hbv
   by_cases hlt : u < xm'
   ·have hui : (u : Int) < xm' := by omega
    obtain ⟨t, ht⟩ : ∃ t, its[u]? = some t := ⟨its[u]'(by have := HXM.out; omega), List.getElem?_eq_getElem _⟩
    obtain ⟨g, off, y, A⟩ := Zb3 (lies_eq.1 HX.out).2.2.2.2.2.2 u t ht
    rw [Nat.zero_add] at A
    have ha : xia = some ⟨g, off, none⟩ := A.ha
    subst ha
    have y0 := Zae HBV.out A.c0
    have y1 := Zae HBV.out A.c1
    have y2 := Zae HBV.out A.c2
    have hmem := List.mem_of_getElem? ht
    have hmore := Zlo ht
    have hle := Zln (its := its) (u + 1)
    have hcal := HIH.out t hmem y wr (Zaw HBV.out t y A.li) (Zbl HFS.out t hmem) (by omega)
    obtain ⟨r1, hr1⟩ : ∃ r1, rszs (its.take u) = r1 := ⟨_, rfl⟩
    obtain ⟨r2, hr2⟩ : ∃ r2, rsz t = r2 := ⟨_, rfl⟩
    rw [hr1, hr2] at hmore
    rw [hr1]
    rw [hr2] at hcal
    have HC := Hid.mk hcal
    have HMO := Hid.mk hmore
    have hb1 : r1 + r2 <= 1000000000000 := by omega
    clear hcal ht A hmem hmore hle hr1 hr2
    go_wp2_with fail
    refine HC.out.mono ?_
    rintro e w1 ⟨rfl, hb2⟩
    have HB2 := Hid.mk (below_go HBV.out hb2)
    clear hb2
    go_wp2_with fail
    exact ⟨⟨u + 1, by omega, by simp, by rw [HMO.out]; simp, HB2.out⟩, by simp [intOf]; omega⟩
   ·have hui : ¬ (u : Int) < xm' := by omega
    have htk : its.take u = its := List.take_of_length_le (by rw [<- HXM.out]; omega)
    rw [htk]
    obtain ⟨S0, hS0⟩ : ∃ S0, rszs its = S0 := ⟨_, rfl⟩
    rw [hS0] at HR0 hrb ⊢
    clear htk hS0
    by_cases hmax : 16777215 < S0
    ·have hmi : (S0 : Int) > 16777215 := by omega
     have e : R0 = S0 := by rw [<- HR0.out, if_pos hmax]
     subst e
     go_wp2_with fail
     go_ret
     exact ⟨rfl, below_go HBN.out HBV.out⟩
    ·have hmi : ¬ (S0 : Int) > 16777215 := by omega
     have e : R0 = S0 + (hd 0 S0).length := by rw [<- HR0.out, if_neg hmax, Zm3]
     have h4 := Zo4 (base := 0) (n := S0) (by omega)
     have hcal := Zdm 0 S0 (by omega) (by omega) wr
     rw [show ((0 : Nat) : Int) = 0 from rfl] at hcal
     obtain ⟨K, hK⟩ : ∃ K, (hd 0 S0).length = K := ⟨_, rfl⟩
     rw [hK] at hcal e h4
     subst e
     have HC := Hid.mk hcal
     clear hcal hK
     go_wp2_with fail
     refine HC.out.mono ?_
     rintro e w2 ⟨rfl, _, hb2⟩
     have HB2 := Hid.mk (below_go HBV.out hb2)
     clear hb2
     go_wp2_with fail
     go_ret
     exact ⟨by simp, below_go HBN.out HB2.out⟩
theorem Zur : ∀ t, SizeSaid t := T.ind Zrj
theorem Zue {l : Bool} {bs : List Int} {its : List T} (h : (wk (.mk l bs its) 0 0).2 = 0) : bs.length ≤ 16777215 ∧ szs its ≤ 167772150 ∧ rszs its ≤ szs its ∧ Like (rszs its) (szs its) := by
  have hf := Zhw _ 0 0 h
  obtain ⟨h1, h2, h3, h4⟩ := Zq3 h
  have hw := Zcm h2
  have hb : bs.length ≤ 16777215 := by
    cases l with
    | true => have e : bs = [] := by simpa using hw
              rw [e]; simp
    | false => unfold wt at h3; simp at h3; omega
  have hfs : forms its = true := by
    cases l with
    | true => exact (Zct hf).2
    | false => rw [Zb8 hf, Zck]
  have hk := Zfi fun t ht => Zob t (Zbl hfs t ht)
  rw [h4] at h
  obtain ⟨W, hW⟩ : ∃ W, wks its 1 (0 + wt l bs 0) = (W, 0) := ⟨(wks its 1 (0 + wt l bs 0)).1, Prod.ext rfl h⟩
  have hbd := Zhv (by omega) h3 hW
  exact ⟨hb, by omega, Zxe hfs, hk⟩
set_option maxHeartbeats 4000000 in
theorem Zh6 (t : T) (x : V) (w : World) (hx : Lies w t x) :
  Calls Tryz.prog 79 #[.agg #[.bool x.l, .slice x.ba x.bn x.bc, .slice x.ia x.m x.ic]] w fun e w' => (∃ a n c, e = .returned (.tuple #[.slice a n c, .int .i64 ((encP t).2 : Nat)]) /\ Ag w' a n c (encP t).1 /\ (x.l = true -> Nw w.heap.size a)) /\ Below w.heap.size w w' := by
 obtain ⟨l, bs, its⟩ := t
 have HBN := Hid.mk (below_new w (.cells #[.bool x.l, .slice x.ba x.bn x.bc, .slice x.ia x.m x.ic] 94))
 have HBX := Hid.mk (Zcy w x)
 have HX := Hid.mk (Zaw HBN.out _ x hx)
 have xm := (lies_eq.1 hx).2.2.1
 have xm2 := (lies_eq.1 hx).2.2.2.2.2.1.2
 have hbl := (lies_eq.1 hx).2.1.l
 have HXM := Hid.mk xm
 have hcal := Zuf (.mk l bs its) x _ 0 0 HX.out (by omega) (by omega)
 rw [show ((0 : Nat) : Int) = 0 from rfl] at hcal
 obtain ⟨⟨ww, er⟩, hwk⟩ : ∃ r, wk (.mk l bs its) 0 0 = r := ⟨_, rfl⟩
 rw [hwk] at hcal
 simp only at hcal
 by_cases her : er = 0
 case neg =>
  have hm : mP (.mk l bs its) = (0, er) := by unfold mP; rw [hwk, if_pos (by simpa using her)]
  have he : encP (.mk l bs its) = ([], er) := by unfold encP; rw [hm, if_neg (by simpa using her)]
  rw [he]
  have hee : ((er : Int) != 0) = true := by rw [bne_iff_ne]; omega
  have HC := Hid.mk hcal
  clear hcal hm he hx hwk xm hbl xm2
  go_enter Tryz.func79, Tryz.ntmps79
  go_wp2_with fail
  refine HC.out.mono ?_
  rintro e w1 ⟨rfl, hb1⟩
  have HB1 := Hid.mk (below_go HBN.out hb1)
  clear hb1 HC
  go_wp2_with fail
  go_ret2
  exact ⟨⟨none, 0, 0, rfl, ag_nil _, fun _ g off h => by cases h⟩, HB1.out⟩
 subst her
 rw [show ((0 : Nat) : Int) = 0 from rfl] at hcal
 have h0 : (wk (.mk l bs its) 0 0).2 = 0 := by rw [hwk]
 obtain ⟨s1, s2, s3, s4⟩ := Zue h0
 have hfs : forms its = true := by
  have hf := Zhw _ 0 0 h0
  cases l with
  | true => exact (Zct hf).2
  | false => rw [Zb8 hf, Zck]
 have hmP : mP (.mk l bs its) = if 16777215 < bs.length + szs its then (0, 20) else (sz (.mk l bs its), 0) := by unfold mP; rw [if_neg (by rw [h0]; simp)]; rfl
 have hN : (16777215 < bs.length + szs its) ↔ (16777215 < bs.length + rszs its) := by unfold Like at s4; omega
 have hbody : (bodyOf (.mk l bs its)).length = bs.length + szs its := by rw [<- Zh0 (Zhw _ 0 0 h0)]; rfl
 obtain ⟨E, hE⟩ : ∃ E, encP (.mk l bs its) = E := ⟨_, rfl⟩
 rw [hE]
 have HEE : Hid (encP (.mk l bs its) = E) := Hid.mk hE
 have HMP := Hid.mk hmP
 have HN := Hid.mk hN
 have HBO := Hid.mk hbody
 have HFS := Hid.mk hfs
 have HC := Hid.mk hcal
 obtain ⟨xl, xba, xbn, xbc, xia, xm', xic⟩ := x
 simp only at xm2 hbl HBX HBN HX HXM HC
 have HBL := Hid.mk hbl
 obtain ⟨LB, hLB⟩ : ∃ LB, bs.length = LB := ⟨_, rfl⟩
 have hLx : LB = xbn := by omega
 subst hLx
 clear hcal hE hmP hN hbody hfs hx hwk h0 xm s4 hbl
 have HLB := Hid.mk hLB
 rw [hLB] at s1 HMP HN HBO
 clear hLB
 go_enter Tryz.func79, Tryz.ntmps79
 go_wp2_with fail
 refine HC.out.mono ?_
 rintro e w1 ⟨rfl, hb1⟩
 obtain ⟨c0, c1, c2⟩ := HBX.out.go hb1
 simp only at c0 c1 c2
 have HB1 := Hid.mk (below_go HBN.out hb1)
 have HX1 := Hid.mk (Zaw hb1 _ _ HX.out)
 have HBX1 := Hid.mk (HBX.out.go hb1)
 clear hb1 HC HBX HX
 go_wp2_with fail
 go_loopw [6, 7] (fun p q v => ∃ u : Nat, u <= xm' /\ q = .int .i64 u /\ p = .int .i64 (LB + rszs (its.take u) : Nat) /\ Below w1.heap.size w1 v) (fun _ q _ => xm' - (intOf q).toNat)
 case atStart => exact ⟨0, by omega, rfl, by rw [List.take_zero, Zd0]; rfl, Below.refl _ _⟩
 case round =>
  clear c0 c1 c2
  obtain ⟨u, hu, rfl, rfl, hbv⟩ := hrel
  obtain ⟨d0, d1, d2⟩ := HBX1.out.go hbv
  simp only at d0 d1 d2
  have HBV := Hid.mk hbv
  clear hbv
  by_cases hlt : u < xm'
  ·have hui : (u : Int) < xm' := by omega
   obtain ⟨t, ht⟩ : ∃ t, its[u]? = some t := ⟨its[u]'(by have := HXM.out; omega), List.getElem?_eq_getElem _⟩
   obtain ⟨g, off, y, A⟩ := Zb3 (lies_eq.1 HX1.out).2.2.2.2.2.2 u t ht
   rw [Nat.zero_add] at A
   have ha : xia = some ⟨g, off, none⟩ := A.ha
   subst ha
   have y0 := Zae HBV.out A.c0
   have y1 := Zae HBV.out A.c1
   have y2 := Zae HBV.out A.c2
   have hmem := List.mem_of_getElem? ht
   have hmore := Zlo ht
   have hle := Zln (its := its) (u + 1)
   have hcal := Zur t y wr (Zaw HBV.out t y A.li) (Zbl HFS.out t hmem) (by omega)
   obtain ⟨r1, hr1⟩ : ∃ r1, LB + rszs (its.take u) = r1 := ⟨_, rfl⟩
   obtain ⟨r2, hr2⟩ : ∃ r2, rsz t = r2 := ⟨_, rfl⟩
   have hmo : LB + rszs (its.take (u + 1)) = r1 + r2 := by omega
   rw [hr1]
   rw [hr2] at hcal
   have HC := Hid.mk hcal
   have HMO := Hid.mk hmo
   have hb1 : r1 + r2 <= 1000000000000 := by omega
   clear hcal ht A hmem hmore hle hr1 hr2 hmo
   go_wp2_with fail
   refine HC.out.mono ?_
   rintro e w2 ⟨rfl, hb2⟩
   have HB2 := Hid.mk (below_go HBV.out hb2)
   clear hb2
   go_wp2_with fail
   exact ⟨⟨u + 1, by omega, by simp, by rw [HMO.out]; simp, HB2.out⟩, by simp [intOf]; omega⟩
  ·have hui : ¬ (u : Int) < xm' := by omega
   have htk : its.take u = its := List.take_of_length_le (by rw [<- HXM.out]; omega)
   rw [htk]
   have hn := HN.out
   have hmp := HMP.out
   have hbo := HBO.out
   obtain ⟨S0, hS0⟩ : ∃ S0, LB + rszs its = S0 := ⟨_, rfl⟩
   rw [hS0] at hn ⊢
   clear htk
   by_cases hmax : 16777215 < S0
   ·have hmi : (S0 : Int) > 16777215 := by omega
    rw [if_pos (hn.2 hmax)] at hmp
    have he : E = ([], 20) := by rw [<- HEE.out]; unfold encP; rw [hmp, if_neg (by decide)]
    subst he
    clear hn hmp hbo hS0
    go_wp2_with fail
    go_ret2
    exact ⟨⟨none, 0, 0, rfl, ag_nil _, fun _ g off h => by cases h⟩, below_go HB1.out HBV.out⟩
   ·have hmi : ¬ (S0 : Int) > 16777215 := by omega
    have hng : ¬ 16777215 < LB + szs its := fun h => hmax (hn.1 h)
    rw [if_neg hng] at hmp
    have he : E = (enc (.mk l bs its), 0) := by rw [<- HEE.out]; unfold encP; rw [hmp, if_pos rfl]
    subst he
    have hcal := Zp5 (.mk l bs its) _ wr (Zaw HBV.out _ _ HX1.out) (by omega)
    have HC := Hid.mk hcal
    clear hn hmp hbo hS0 hcal
    go_wp2_with fail
    refine HC.out.mono ?_
    rintro e w2 ⟨⟨a2, n2, c2, rfl, hag2, hnw⟩, hb2⟩
    have HNW := Hid.mk (fun h => (hnw h).mono (Nat.le_trans HB1.out.size HBV.out.size))
    have HA2 := Hid.mk hag2
    have HB2 := Hid.mk (below_go HBV.out hb2)
    clear hag2 hb2 hnw
    go_wp2_with fail
    go_ret2
    exact ⟨⟨a2, n2, c2, rfl, HA2.out, HNW.out⟩, below_go HB1.out HB2.out⟩
section
variable {a : Act} {w : World}
theorem Zhf {x : Operand} {p : Addr} {v : Value} {o : Oper} (ho : o.op = .load 102 x) (hx : a.eval x = .pointer (some p)) (hc : w.cell? p = some v) : (execOp a.eval o).run Tryz.prog w = .ok (.value v) w := by
 unfold execOp
 rw [ho]
 simp only [hx]
 go_simp
theorem Zru {x y : Operand} {g off j m c : Nat} {o : Oper} (ho : o.op = .indexAddr 102 x y) (hx : a.eval x = .slice (some ⟨g, off, none⟩) m c) (hy : a.eval y = .int .i64 j) (hj : j < m) : (execOp a.eval o).run Tryz.prog w = .ok (.value (.pointer (some ⟨g, off + j * 34, none⟩))) w := by
 have hji : (j : Int) < m := by omega
 unfold execOp
 rw [ho]
 simp only [hx, hy]
 go_simp
end
end Go.Proofs.YtdkpilgelgjieaaGreat

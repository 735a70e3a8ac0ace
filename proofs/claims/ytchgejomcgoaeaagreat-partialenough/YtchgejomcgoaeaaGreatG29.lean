/- What rightPath and rightValue answer. -/
import Derived.Test.YtchgejomcgoaeaaGreatG18
import Derived.Test.YtchgejomcgoaeaaGreatG28
import Derived.Test.YtchgejomcgoaeaaGreatG19
set_option linter.unusedVariables false
set_option maxRecDepth 100000
namespace Go.Proofs.YtchgejomcgoaeaaGreat
open Go.RowKit
set_option maxHeartbeats 1000000 in
theorem Zih (K : Nat → Prop) (x : NV) (n : PN) (w : World) (h : NodeAt K w x n) :
    Calls Tryz.prog 86 #[.agg x.cells.toArray] w fun e w' => e = .returned (.bool (rpathP n)) ∧ Below w.heap.size w w' := by
  have B := Zeg w x h.c.len
  have HB := Hid.mk (below_new w (.cells x.cells.toArray 68))
  have hk := h.k
  have hp := h.p
  have hpb := hp.2.1
  have HL := Hid.mk hp.l
  have HRR := Hid.mk (show ∀ v, Below w.heap.size w v → Calls Tryz.prog 113 #[.slice x.pa x.pn x.pc] v fun e w' => e = .returned (.bool (Ni.rightP n.p)) ∧ w' = v from fun v hv => Ni.right_any _ _ _ _ v (hp.1.at hv) (by omega))
  obtain ⟨rp, hrp⟩ : ∃ rp, Ni.rightP n.p = rp := ⟨_, rfl⟩
  obtain ⟨res, hres⟩ : ∃ res, rpathP n = res := ⟨_, rfl⟩
  rw [hres]
  unfold rpathP at hres
  rw [HL.out, hrp, ← hk] at hres
  rw [hrp] at HRR
  have HRES := Hid.mk hres
  clear hp h hk hres hrp
  go_enter Tryz.func86, Tryz.ntmps86
  go_upto_region 1 with fail
  refine gen_w (p := fun v => Code.wp _ _ _ _ v) (q := fun v => NBx w.heap.size v x ∧ Below w.heap.size w v) ⟨B, HB.out⟩ ?_
  clear B HB
  rintro v ⟨B, hb⟩
  have HB := Hid.mk hb
  have c0 := B.c0
  have c1 := B.c1
  clear hb B
  by_cases h2 : x.k = 2
  · by_cases h0 : x.pn = 0
    · go_wp2_with fail
      have hr := HRES.out
      simp [h2, h0] at hr
      subst hr
      go_ret
      first | exact ⟨rfl, HB.out⟩ | (refine ⟨congrArg (fun b => Ending.returned (Value.bool b)) ?_, HB.out⟩; first | (simp; done) | (simp; omega))
    · by_cases h64 : x.pn ≤ 64
      · go_wp2_with fail
        refine (HRR.out v HB.out).mono ?_
        rintro e w1 ⟨rfl, rfl⟩
        go_wp2_with fail
        have hr := HRES.out
        simp [h2, h0, h64] at hr
        subst hr
        go_ret
        first | exact ⟨rfl, HB.out⟩ | (refine ⟨congrArg (fun b => Ending.returned (Value.bool b)) ?_, HB.out⟩; first | (simp; done) | (simp; omega))
      · go_wp2_with fail
        have hr := HRES.out
        simp [h2, h0, h64] at hr
        subst hr
        go_ret
        first | exact ⟨rfl, HB.out⟩ | (refine ⟨congrArg (fun b => Ending.returned (Value.bool b)) ?_, HB.out⟩; first | (simp; done) | (simp; omega))
  · by_cases h1 : x.k = 1
    · by_cases h64 : x.pn ≤ 64
      · go_wp2_with fail
        refine (HRR.out v HB.out).mono ?_
        rintro e w1 ⟨rfl, rfl⟩
        go_wp2_with fail
        have hr := HRES.out
        simp [h1, h64] at hr
        subst hr
        go_ret
        first | exact ⟨rfl, HB.out⟩ | (refine ⟨congrArg (fun b => Ending.returned (Value.bool b)) ?_, HB.out⟩; first | (simp; done) | (simp; omega))
      · go_wp2_with fail
        have hr := HRES.out
        simp [h1, h64] at hr
        subst hr
        go_ret
        first | exact ⟨rfl, HB.out⟩ | (refine ⟨congrArg (fun b => Ending.returned (Value.bool b)) ?_, HB.out⟩; first | (simp; done) | (simp; omega))
    · by_cases h0 : x.pn = 0
      · go_wp2_with fail
        have hr := HRES.out
        simp [h1, h2, h0] at hr
        subst hr
        go_ret
        first | exact ⟨rfl, HB.out⟩ | (refine ⟨congrArg (fun b => Ending.returned (Value.bool b)) ?_, HB.out⟩; first | (simp; done) | (simp; omega))
      · go_wp2_with fail
        have hr := HRES.out
        simp [h1, h2, h0] at hr
        subst hr
        go_ret
        first | exact ⟨rfl, HB.out⟩ | (refine ⟨congrArg (fun b => Ending.returned (Value.bool b)) ?_, HB.out⟩; first | (simp; done) | (simp; omega))
set_option maxHeartbeats 1000000 in
theorem Zhe (K : Nat → Prop) (x : NV) (n : PN) (w : World) (h : NodeAt K w x n) :
    Calls Tryz.prog 87 #[.agg x.cells.toArray] w fun e w' => e = .returned (.bool (rvalueP n)) ∧ Below w.heap.size w w' := by
  have B := Zeg w x h.c.len
  have HB := Hid.mk (below_new w (.cells x.cells.toArray 68))
  have hk := h.k
  have hp := h.v
  have hpb := hp.2.1
  have HL := Hid.mk hp.l
  obtain ⟨res, hres⟩ : ∃ res, rvalueP n = res := ⟨_, rfl⟩
  rw [hres]
  unfold rvalueP at hres
  rw [HL.out, ← hk] at hres
  have HRES := Hid.mk hres
  clear hp h hk hres
  go_enter Tryz.func87, Tryz.ntmps87
  go_upto_region 1 with fail
  refine gen_w (p := fun v => Code.wp _ _ _ _ v) (q := fun v => NBx w.heap.size v x ∧ Below w.heap.size w v) ⟨B, HB.out⟩ ?_
  clear B HB
  rintro v ⟨B, hb⟩
  have HB := Hid.mk hb
  have c0 := B.c0
  have c1 := B.c2
  clear hb B
  by_cases h2 : x.k = 1
  · by_cases h0 : x.vn = 0
    · go_wp2_with fail
      have hr := HRES.out
      simp [h2, h0] at hr
      subst hr
      go_ret
      first | exact ⟨rfl, HB.out⟩ | (refine ⟨congrArg (fun b => Ending.returned (Value.bool b)) ?_, HB.out⟩; first | (simp; done) | (simp; omega))
    · by_cases h64 : x.vn ≤ 256
      · go_wp2_with fail
        have hr := HRES.out
        simp [h2, h0, h64] at hr
        subst hr
        go_ret
        first | exact ⟨rfl, HB.out⟩ | (refine ⟨congrArg (fun b => Ending.returned (Value.bool b)) ?_, HB.out⟩; first | (simp; done) | (simp; omega))
      · go_wp2_with fail
        have hr := HRES.out
        simp [h2, h0, h64] at hr
        subst hr
        go_ret
        first | exact ⟨rfl, HB.out⟩ | (refine ⟨congrArg (fun b => Ending.returned (Value.bool b)) ?_, HB.out⟩; first | (simp; done) | (simp; omega))
  · by_cases h1 : x.k = 3
    · by_cases h64 : x.vn ≤ 256
      · go_wp2_with fail
        have hr := HRES.out
        simp [h1, h64] at hr
        subst hr
        go_ret
        first | exact ⟨rfl, HB.out⟩ | (refine ⟨congrArg (fun b => Ending.returned (Value.bool b)) ?_, HB.out⟩; first | (simp; done) | (simp; omega))
      · go_wp2_with fail
        have hr := HRES.out
        simp [h1, h64] at hr
        subst hr
        go_ret
        first | exact ⟨rfl, HB.out⟩ | (refine ⟨congrArg (fun b => Ending.returned (Value.bool b)) ?_, HB.out⟩; first | (simp; done) | (simp; omega))
    · by_cases h0 : x.vn = 0
      · go_wp2_with fail
        have hr := HRES.out
        simp [h1, h2, h0] at hr
        subst hr
        go_ret
        first | exact ⟨rfl, HB.out⟩ | (refine ⟨congrArg (fun b => Ending.returned (Value.bool b)) ?_, HB.out⟩; first | (simp; done) | (simp; omega))
      · go_wp2_with fail
        have hr := HRES.out
        simp [h1, h2, h0] at hr
        subst hr
        go_ret
        first | exact ⟨rfl, HB.out⟩ | (refine ⟨congrArg (fun b => Ending.returned (Value.bool b)) ?_, HB.out⟩; first | (simp; done) | (simp; omega))
theorem Zcz : z32.length = 32 := rfl
set_option maxHeartbeats 2000000 in
theorem Zdo (K : Nat → Prop) (x : RV) (r : PR) (w : World) (h : RefAt K w x r) (hd : r.i.length < 32 → DecSaid r.i) :
    Calls Tryz.prog 114 #[.agg x.cells.toArray] w fun e w' => e = .returned (.bool (rrefP KD r)) ∧ Below w.heap.size w w' := by
  have B := Zkt w x h.len
  have HB := Hid.mk (below_new w (.cells x.cells.toArray 65))
  have HK := Hid.mk (show x.n < 32 → ∀ v, Below w.heap.size w v → Calls Tryz.prog 115 #[.agg x.cells.toArray] v fun e w' => e = .returned (.int .i64 (KD r.i)) ∧ Below v.heap.size v w' from fun hx v hv => Zd8 K x r v (h.go (Keep.below hv)) (hd (by rw [h.2.2.2.2.l]; exact hx)))
  obtain ⟨res, hres⟩ : ∃ res, rrefP KD r = res := ⟨_, rfl⟩
  obtain ⟨kr, hkr⟩ : ∃ kr, KD r.i = kr := ⟨_, rfl⟩
  rw [hres]
  rw [hkr] at HK
  unfold rrefP at hres
  rw [hkr, ← h.1, ← h.2.1, h.2.2.2.2.l] at hres
  have HRES := Hid.mk hres
  have hl := h.len
  have hnb := h.2.2.2.2.2.1
  clear h hd hkr hres
  go_enter Tryz.func114, Tryz.ntmps114
  go_upto_region 1 with fail
  refine gen_w (p := fun v => Code.wp _ _ _ _ v) (q := fun v => RBx w.heap.size v x ∧ Below w.heap.size w v) ⟨B, HB.out⟩ ?_
  clear B HB
  rintro v ⟨B, hb⟩
  have HB := Hid.mk hb
  have HX := Hid.mk B
  have HLX := Hid.mk hl
  have c0 := B.c0
  have c1 := B.c33
  clear hb B hl
  by_cases h0 : x.k = 0
  · by_cases hz : x.d = z32
    · have HQ := Hid.mk (show (!(x.d == z32)) = false from by simp [hz])
      have HZ := Hid.mk hz
      clear hz
      go_wp2_with (first | refine Zdl rfl _ rfl w.heap.size 1 rfl x.d HLX.out HX.out.digest ?_ | refine Zf5 rfl _ _ rfl x.d z32 rfl rfl HLX.out Zcz false HQ.out ?_ | refine Zf6 rfl _ _ rfl x.d z32 rfl rfl HLX.out Zcz false HQ.out ?_ | refine Zbf rfl _ rfl w.heap.size 0 rfl x HLX.out HX.out.all ?_)
      go_ret
      refine ⟨congrArg (fun b => Ending.returned (Value.bool b)) ?_, HB.out⟩
      rw [← HRES.out, Bool.eq_iff_iff]
      first | (simp [h0, HZ.out]; done) | (simp [h0, HZ.out]; omega)
    · have HQ := Hid.mk (show (!(x.d == z32)) = true from by simp [hz])
      have HZ := Hid.mk hz
      clear hz
      go_wp2_with (first | refine Zdl rfl _ rfl w.heap.size 1 rfl x.d HLX.out HX.out.digest ?_ | refine Zf5 rfl _ _ rfl x.d z32 rfl rfl HLX.out Zcz true HQ.out ?_ | refine Zf6 rfl _ _ rfl x.d z32 rfl rfl HLX.out Zcz true HQ.out ?_ | refine Zbf rfl _ rfl w.heap.size 0 rfl x HLX.out HX.out.all ?_)
      go_ret
      refine ⟨congrArg (fun b => Ending.returned (Value.bool b)) ?_, HB.out⟩
      rw [← HRES.out, Bool.eq_iff_iff]
      first | (simp [h0, HZ.out]; done) | (simp [h0, HZ.out]; omega)
  · by_cases h2 : x.k = 2
    · go_wp2_with fail
      go_ret
      refine ⟨congrArg (fun b => Ending.returned (Value.bool b)) ?_, HB.out⟩
      rw [← HRES.out, Bool.eq_iff_iff]
      first | (simp [h2]; done) | (simp [h2]; omega)
    · by_cases h1 : x.k = 1
      · by_cases hz : x.d = z32
        · have HQ := Hid.mk (show (x.d == z32) = true from by simp [hz])
          have HZ := Hid.mk hz
          clear hz
          by_cases h32 : x.n < 32
          · have hi32 : (x.n : Int) < 32 := by omega
            go_wp2_with (first | refine Zdl rfl _ rfl w.heap.size 1 rfl x.d HLX.out HX.out.digest ?_ | refine Zf5 rfl _ _ rfl x.d z32 rfl rfl HLX.out Zcz true HQ.out ?_ | refine Zf6 rfl _ _ rfl x.d z32 rfl rfl HLX.out Zcz true HQ.out ?_ | refine Zbf rfl _ rfl w.heap.size 0 rfl x HLX.out HX.out.all ?_)
            refine (HK.out h32 v HB.out).mono ?_
            rintro e w1 ⟨rfl, hb1⟩
            have HB1 := Hid.mk (below_go HB.out hb1)
            clear hb1
            go_wp2_with fail
            go_ret
            refine ⟨congrArg (fun b => Ending.returned (Value.bool b)) ?_, HB1.out⟩
            rw [← HRES.out, Bool.eq_iff_iff]
            first | (simp [h1, HZ.out, h32]; done) | (simp [h1, HZ.out, h32]; omega)
          · have hi32 : ¬ (x.n : Int) < 32 := by omega
            go_wp2_with (first | refine Zdl rfl _ rfl w.heap.size 1 rfl x.d HLX.out HX.out.digest ?_ | refine Zf5 rfl _ _ rfl x.d z32 rfl rfl HLX.out Zcz true HQ.out ?_ | refine Zf6 rfl _ _ rfl x.d z32 rfl rfl HLX.out Zcz true HQ.out ?_ | refine Zbf rfl _ rfl w.heap.size 0 rfl x HLX.out HX.out.all ?_)
            go_ret
            refine ⟨congrArg (fun b => Ending.returned (Value.bool b)) ?_, HB.out⟩
            rw [← HRES.out, Bool.eq_iff_iff]
            first | (simp [h1, HZ.out, h32]; done) | (simp [h1, HZ.out, h32]; omega)
        · have HQ := Hid.mk (show (x.d == z32) = false from by simp [hz])
          have HZ := Hid.mk hz
          clear hz
          go_wp2_with (first | refine Zdl rfl _ rfl w.heap.size 1 rfl x.d HLX.out HX.out.digest ?_ | refine Zf5 rfl _ _ rfl x.d z32 rfl rfl HLX.out Zcz false HQ.out ?_ | refine Zf6 rfl _ _ rfl x.d z32 rfl rfl HLX.out Zcz false HQ.out ?_ | refine Zbf rfl _ rfl w.heap.size 0 rfl x HLX.out HX.out.all ?_)
          go_ret
          refine ⟨congrArg (fun b => Ending.returned (Value.bool b)) ?_, HB.out⟩
          rw [← HRES.out, Bool.eq_iff_iff]
          first | (simp [h1, HZ.out]; done) | (simp [h1, HZ.out]; omega)
      · go_wp2_with fail
        go_ret
        refine ⟨congrArg (fun b => Ending.returned (Value.bool b)) ?_, HB.out⟩
        rw [← HRES.out, Bool.eq_iff_iff]
        first | (simp [h0, h2, h1]; done) | (simp [h0, h2, h1]; omega)
set_option maxHeartbeats 2000000 in
theorem Zhf (K : Nat → Prop) (x : NV) (n : PN) (w : World) (h : NodeAt K w x n) (hd : n.c.i.length < 32 → DecSaid n.c.i) :
    Calls Tryz.prog 88 #[.agg x.cells.toArray] w fun e w' => e = .returned (.bool (rchildP KD n)) ∧ Below w.heap.size w w' := by
  have B := Zeg w x h.c.len
  have HB := Hid.mk (below_new w (.cells x.cells.toArray 68))
  obtain ⟨q, hq⟩ : ∃ q, rrefP KD n.c = q := ⟨_, rfl⟩
  have HR := Hid.mk (show ∀ v, Below w.heap.size w v → Calls Tryz.prog 114 #[.agg x.c.cells.toArray] v fun e w' => e = .returned (.bool q) ∧ Below v.heap.size v w' from fun v hv => by
    rw [← hq]; exact Zdo K x.c n.c v (h.c.go (Keep.below hv)) hd)
  obtain ⟨kr, hkr⟩ : ∃ kr, KD n.c.i = kr := ⟨_, rfl⟩
  have HK := Hid.mk (show q = true → ∀ v, Below w.heap.size w v → Calls Tryz.prog 115 #[.agg x.c.cells.toArray] v fun e w' => e = .returned (.int .i64 kr) ∧ Below v.heap.size v w' from fun hqt v hv => by
    rw [← hkr]; exact Zd8 K x.c n.c v (h.c.go (Keep.below hv)) (hd (Ze7 (hq.trans hqt))))
  obtain ⟨res, hres⟩ : ∃ res, rchildP KD n = res := ⟨_, rfl⟩
  rw [hres]
  unfold rchildP at hres
  rw [hkr, hq, ← h.k, ← h.c.1] at hres
  have HRES := Hid.mk hres
  have HLX := Hid.mk h.c.len
  clear h hd hkr hres hq
  go_enter Tryz.func88, Tryz.ntmps88
  go_upto_region 1 with fail
  refine gen_w (p := fun v => Code.wp _ _ _ _ v) (q := fun v => NBx w.heap.size v x ∧ Below w.heap.size w v) ⟨B, HB.out⟩ ?_
  clear B HB
  rintro v ⟨B, hb⟩
  have HB := Hid.mk hb
  have HX := Hid.mk B
  clear hb B
  go_wp2_with (first | refine Zbf rfl _ rfl w.heap.size 3 rfl x.c HLX.out HX.out.child ?_)
  refine (HR.out v HB.out).mono ?_
  rintro e w1 ⟨rfl, hb1⟩
  have B1 := HX.out.go hb1
  have HB1 := Hid.mk (below_go HB.out hb1)
  have c0 := B1.c0
  have c3 := B1.c3
  have HX1 := Hid.mk B1
  clear hb1 B1 HX HB
  cases q with
  | false =>
    go_wp2_with fail
    go_ret
    refine ⟨congrArg (fun b => Ending.returned (Value.bool b)) ?_, HB1.out⟩
    rw [← HRES.out, Bool.eq_iff_iff]
    first | (simp; done) | (simp; omega)
  | true =>
    by_cases h2 : x.k = 2
    · by_cases hc : x.c.k = 2
      · go_wp2_with fail
        go_ret
        refine ⟨congrArg (fun b => Ending.returned (Value.bool b)) ?_, HB1.out⟩
        rw [← HRES.out, Bool.eq_iff_iff]
        first | (simp [h2, hc]; done) | (simp [h2, hc]; omega)
      · have hcq : (x.c.k == 2) = false := by simp [hc]
        go_wp2_with (first | refine Zbf rfl _ rfl w.heap.size 3 rfl x.c HLX.out HX1.out.child ?_)
        refine (HK.out (by trivial) w1 HB1.out).mono ?_
        rintro e w2 ⟨rfl, hb2⟩
        have HB2 := Hid.mk (below_go HB1.out hb2)
        clear hb2
        go_wp2_with fail
        go_ret
        refine ⟨congrArg (fun b => Ending.returned (Value.bool b)) ?_, HB2.out⟩
        rw [← HRES.out, Bool.eq_iff_iff]
        first | (simp [h2, hc]; done) | (simp [h2, hc]; omega)
    · go_wp2_with fail
      go_ret
      refine ⟨congrArg (fun b => Ending.returned (Value.bool b)) ?_, HB1.out⟩
      rw [← HRES.out, Bool.eq_iff_iff]
      first | (simp [h2]; done) | (simp [h2]; omega)
end Go.Proofs.YtchgejomcgoaeaaGreat

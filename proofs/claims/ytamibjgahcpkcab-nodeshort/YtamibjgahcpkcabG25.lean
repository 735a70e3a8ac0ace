/- What rightRef answers, where Decode of what is inline answers as it should. -/
import Derived.Test.YtamibjgahcpkcabG17
namespace Go.Proofs.Ytamibjgahcpkcab
open Go.RowKit
set_option linter.unusedVariables false
set_option maxRecDepth 100000
theorem z32_len : z32.length = 32 := rfl
set_option maxHeartbeats 2000000 in
theorem rightRef_any (K : Nat → Prop) (x : RV) (r : PR) (w : World) (h : RefAt K w x r) (hd : r.i.length < 32 → DecSaid r.i) :
    Calls Try.prog 35 #[.agg x.cells.toArray] w fun e w' => e = .returned (.bool (rrefP KD r)) ∧ Below w.heap.size w w' := by
  have B := rbx_new w x h.len
  have HB := Hid.mk (below_new w (.cells x.cells.toArray 26))
  have HK := Hid.mk (show x.n < 32 → ∀ v, Below w.heap.size w v → Calls Try.prog 36 #[.agg x.cells.toArray] v fun e w' => e = .returned (.int .i64 (KD r.i)) ∧ Below v.heap.size v w' from fun hx v hv => inlineKind_any K x r v (h.go (Keep.below hv)) (hd (by rw [h.2.2.2.2.l]; exact hx)))
  obtain ⟨res, hres⟩ : ∃ res, rrefP KD r = res := ⟨_, rfl⟩
  obtain ⟨kr, hkr⟩ : ∃ kr, KD r.i = kr := ⟨_, rfl⟩
  rw [hres]
  rw [hkr] at HK
  unfold rrefP at hres
  rw [hkr, ← h.1, ← h.2.1, h.2.2.2.2.l] at hres
  have HRES := Hid.mk hres
  have hl := h.len
  have hnb := h.2.2.2.2.2.1
  clear h hd hkr hres
  go_enter Try.func35, Try.ntmps35
  go_upto_region 1 with fail
  refine gen_w (p := fun v => Code.wp _ _ _ _ v) (q := fun v => RBx w.heap.size v x ∧ Below w.heap.size w v) ⟨B, HB.out⟩ ?_
  clear B HB
  rintro v ⟨B, hb⟩
  have HB := Hid.mk hb
  have HX := Hid.mk B
  have HLX := Hid.mk hl
  have c0 := B.c0
  have c1 := B.c33
  clear hb B hl
  by_cases h0 : x.k = 0
  · by_cases hz : x.d = z32
    · have HQ := Hid.mk (show (!(x.d == z32)) = false from by simp [hz])
      have HZ := Hid.mk hz
      clear hz
      go_wp2_with (first | refine wpl_loadD rfl _ rfl w.heap.size 1 rfl x.d HLX.out HX.out.digest ?_ | refine wpl_neD rfl _ _ rfl x.d z32 rfl rfl HLX.out z32_len false HQ.out ?_ | refine wpl_eqD rfl _ _ rfl x.d z32 rfl rfl HLX.out z32_len false HQ.out ?_ | refine wpl_loadR rfl _ rfl w.heap.size 0 rfl x HLX.out HX.out.all ?_)
      go_ret
      refine ⟨congrArg (fun b => Ending.returned (Value.bool b)) ?_, HB.out⟩
      rw [← HRES.out, Bool.eq_iff_iff]
      first | (simp [h0, HZ.out]; done) | (simp [h0, HZ.out]; omega)
    · have HQ := Hid.mk (show (!(x.d == z32)) = true from by simp [hz])
      have HZ := Hid.mk hz
      clear hz
      go_wp2_with (first | refine wpl_loadD rfl _ rfl w.heap.size 1 rfl x.d HLX.out HX.out.digest ?_ | refine wpl_neD rfl _ _ rfl x.d z32 rfl rfl HLX.out z32_len true HQ.out ?_ | refine wpl_eqD rfl _ _ rfl x.d z32 rfl rfl HLX.out z32_len true HQ.out ?_ | refine wpl_loadR rfl _ rfl w.heap.size 0 rfl x HLX.out HX.out.all ?_)
      go_ret
      refine ⟨congrArg (fun b => Ending.returned (Value.bool b)) ?_, HB.out⟩
      rw [← HRES.out, Bool.eq_iff_iff]
      first | (simp [h0, HZ.out]; done) | (simp [h0, HZ.out]; omega)
  · by_cases h2 : x.k = 2
    · go_wp2_with fail
      go_ret
      refine ⟨congrArg (fun b => Ending.returned (Value.bool b)) ?_, HB.out⟩
      rw [← HRES.out, Bool.eq_iff_iff]
      first | (simp [h2]; done) | (simp [h2]; omega)
    · by_cases h1 : x.k = 1
      · by_cases hz : x.d = z32
        · have HQ := Hid.mk (show (x.d == z32) = true from by simp [hz])
          have HZ := Hid.mk hz
          clear hz
          by_cases h32 : x.n < 32
          · have hi32 : (x.n : Int) < 32 := by omega
            go_wp2_with (first | refine wpl_loadD rfl _ rfl w.heap.size 1 rfl x.d HLX.out HX.out.digest ?_ | refine wpl_neD rfl _ _ rfl x.d z32 rfl rfl HLX.out z32_len true HQ.out ?_ | refine wpl_eqD rfl _ _ rfl x.d z32 rfl rfl HLX.out z32_len true HQ.out ?_ | refine wpl_loadR rfl _ rfl w.heap.size 0 rfl x HLX.out HX.out.all ?_)
            refine (HK.out h32 v HB.out).mono ?_
            rintro e w1 ⟨rfl, hb1⟩
            have HB1 := Hid.mk (below_go HB.out hb1)
            clear hb1
            go_wp2_with fail
            go_ret
            refine ⟨congrArg (fun b => Ending.returned (Value.bool b)) ?_, HB1.out⟩
            rw [← HRES.out, Bool.eq_iff_iff]
            first | (simp [h1, HZ.out, h32]; done) | (simp [h1, HZ.out, h32]; omega)
          · have hi32 : ¬ (x.n : Int) < 32 := by omega
            go_wp2_with (first | refine wpl_loadD rfl _ rfl w.heap.size 1 rfl x.d HLX.out HX.out.digest ?_ | refine wpl_neD rfl _ _ rfl x.d z32 rfl rfl HLX.out z32_len true HQ.out ?_ | refine wpl_eqD rfl _ _ rfl x.d z32 rfl rfl HLX.out z32_len true HQ.out ?_ | refine wpl_loadR rfl _ rfl w.heap.size 0 rfl x HLX.out HX.out.all ?_)
            go_ret
            refine ⟨congrArg (fun b => Ending.returned (Value.bool b)) ?_, HB.out⟩
            rw [← HRES.out, Bool.eq_iff_iff]
            first | (simp [h1, HZ.out, h32]; done) | (simp [h1, HZ.out, h32]; omega)
        · have HQ := Hid.mk (show (x.d == z32) = false from by simp [hz])
          have HZ := Hid.mk hz
          clear hz
          go_wp2_with (first | refine wpl_loadD rfl _ rfl w.heap.size 1 rfl x.d HLX.out HX.out.digest ?_ | refine wpl_neD rfl _ _ rfl x.d z32 rfl rfl HLX.out z32_len false HQ.out ?_ | refine wpl_eqD rfl _ _ rfl x.d z32 rfl rfl HLX.out z32_len false HQ.out ?_ | refine wpl_loadR rfl _ rfl w.heap.size 0 rfl x HLX.out HX.out.all ?_)
          go_ret
          refine ⟨congrArg (fun b => Ending.returned (Value.bool b)) ?_, HB.out⟩
          rw [← HRES.out, Bool.eq_iff_iff]
          first | (simp [h1, HZ.out]; done) | (simp [h1, HZ.out]; omega)
      · go_wp2_with fail
        go_ret
        refine ⟨congrArg (fun b => Ending.returned (Value.bool b)) ?_, HB.out⟩
        rw [← HRES.out, Bool.eq_iff_iff]
        first | (simp [h0, h2, h1]; done) | (simp [h0, h2, h1]; omega)
end Go.Proofs.Ytamibjgahcpkcab
/- What rightChild answers. -/
namespace Go.Proofs.Ytamibjgahcpkcab
open Go.RowKit
set_option linter.unusedVariables false
set_option maxRecDepth 100000
set_option maxHeartbeats 2000000 in
theorem rightChild_any (K : Nat → Prop) (x : NV) (n : PN) (w : World) (h : NodeAt K w x n) (hd : n.c.i.length < 32 → DecSaid n.c.i) :
    Calls Try.prog 19 #[.agg x.cells.toArray] w fun e w' => e = .returned (.bool (rchildP KD n)) ∧ Below w.heap.size w w' := by
  have B := nbx_new w x h.c.len
  have HB := Hid.mk (below_new w (.cells x.cells.toArray 29))
  obtain ⟨q, hq⟩ : ∃ q, rrefP KD n.c = q := ⟨_, rfl⟩
  have HR := Hid.mk (show ∀ v, Below w.heap.size w v → Calls Try.prog 35 #[.agg x.c.cells.toArray] v fun e w' => e = .returned (.bool q) ∧ Below v.heap.size v w' from fun v hv => by
    rw [← hq]; exact rightRef_any K x.c n.c v (h.c.go (Keep.below hv)) hd)
  obtain ⟨kr, hkr⟩ : ∃ kr, KD n.c.i = kr := ⟨_, rfl⟩
  have HK := Hid.mk (show q = true → ∀ v, Below w.heap.size w v → Calls Try.prog 36 #[.agg x.c.cells.toArray] v fun e w' => e = .returned (.int .i64 kr) ∧ Below v.heap.size v w' from fun hqt v hv => by
    rw [← hkr]; exact inlineKind_any K x.c n.c v (h.c.go (Keep.below hv)) (hd (rref_short (hq.trans hqt))))
  obtain ⟨res, hres⟩ : ∃ res, rchildP KD n = res := ⟨_, rfl⟩
  rw [hres]
  unfold rchildP at hres
  rw [hkr, hq, ← h.k, ← h.c.1] at hres
  have HRES := Hid.mk hres
  have HLX := Hid.mk h.c.len
  clear h hd hkr hres hq
  go_enter Try.func19, Try.ntmps19
  go_upto_region 1 with fail
  refine gen_w (p := fun v => Code.wp _ _ _ _ v) (q := fun v => NBx w.heap.size v x ∧ Below w.heap.size w v) ⟨B, HB.out⟩ ?_
  clear B HB
  rintro v ⟨B, hb⟩
  have HB := Hid.mk hb
  have HX := Hid.mk B
  clear hb B
  go_wp2_with (first | refine wpl_loadR rfl _ rfl w.heap.size 3 rfl x.c HLX.out HX.out.child ?_)
  refine (HR.out v HB.out).mono ?_
  rintro e w1 ⟨rfl, hb1⟩
  have B1 := HX.out.go hb1
  have HB1 := Hid.mk (below_go HB.out hb1)
  have c0 := B1.c0
  have c3 := B1.c3
  have HX1 := Hid.mk B1
  clear hb1 B1 HX HB
  cases q with
  | false =>
    go_wp2_with fail
    go_ret
    refine ⟨congrArg (fun b => Ending.returned (Value.bool b)) ?_, HB1.out⟩
    rw [← HRES.out, Bool.eq_iff_iff]
    first | (simp; done) | (simp; omega)
  | true =>
    by_cases h2 : x.k = 2
    · by_cases hc : x.c.k = 2
      · go_wp2_with fail
        go_ret
        refine ⟨congrArg (fun b => Ending.returned (Value.bool b)) ?_, HB1.out⟩
        rw [← HRES.out, Bool.eq_iff_iff]
        first | (simp [h2, hc]; done) | (simp [h2, hc]; omega)
      · have hcq : (x.c.k == 2) = false := by simp [hc]
        go_wp2_with (first | refine wpl_loadR rfl _ rfl w.heap.size 3 rfl x.c HLX.out HX1.out.child ?_)
        refine (HK.out (by trivial) w1 HB1.out).mono ?_
        rintro e w2 ⟨rfl, hb2⟩
        have HB2 := Hid.mk (below_go HB1.out hb2)
        clear hb2
        go_wp2_with fail
        go_ret
        refine ⟨congrArg (fun b => Ending.returned (Value.bool b)) ?_, HB2.out⟩
        rw [← HRES.out, Bool.eq_iff_iff]
        first | (simp [h2, hc]; done) | (simp [h2, hc]; omega)
    · go_wp2_with fail
      go_ret
      refine ⟨congrArg (fun b => Ending.returned (Value.bool b)) ?_, HB1.out⟩
      rw [← HRES.out, Bool.eq_iff_iff]
      first | (simp [h2]; done) | (simp [h2]; omega)
end Go.Proofs.Ytamibjgahcpkcab

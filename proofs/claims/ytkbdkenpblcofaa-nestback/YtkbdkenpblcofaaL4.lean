/- That NestBack answers true. -/
import Derived.Test.YtkbdkenpblcofaaX1
import Derived.Test.YtkbdkenpblcofaaM7r
namespace Go.Proofs.Ytkbdkenpblcofaa
open Go.RowKit
set_option linter.unusedVariables false
set_option maxHeartbeats 2000000 in
theorem back_law (t : T) (y : V) (w : World) (hli : Lies w t y) :
    Calls Try.prog 6 #[.agg #[.bool y.l, .slice y.ba y.bn y.bc, .slice y.ia y.m y.ic]] w fun e w' => e = .returned (.bool true) ∧ Below w.heap.size w w' := by
  have HBN := Hid.mk (below_new w (.cells #[.bool y.l, .slice y.ba y.bn y.bc, .slice y.ia y.m y.ic] 25))
  have HBX := Hid.mk (b1_new w y)
  have HLI := Hid.mk (lies_mono HBN.out t y hli)
  have he := encode_any t y _ HLI.out
  by_cases hm : (mP t).2 = 0
  · rw [encP_yes hm] at he
    simp only at he
    rw [show ((0 : Nat) : Int) = 0 from rfl] at he
    have HE := Hid.mk he
    have HM := Hid.mk hm
    clear he hm hli
    go_enter Try.func6, Try.ntmps6
    go_wp2_with fail
    refine HE.out.mono ?_
    rintro e w1 ⟨⟨a1, n1, c1, rfl, hag1⟩, hb1⟩
    have hd := decode_any a1 n1 c1 (enc t) w1 hag1 (by have := enc_le HM.out; rw [hag1.l] at this; omega)
    rw [enc_dec HM.out] at hd
    have HD := Hid.mk hd
    have HBX1 := Hid.mk (HBX.out.go hb1)
    have HLI1 := Hid.mk (lies_mono hb1 t y HLI.out)
    have HB1 := Hid.mk (below_go HBN.out hb1)
    clear hd hag1 hb1 HE HBX HLI HBN
    go_wp2_with fail
    refine HD.out.mono ?_
    rintro e w2 ⟨hb2, z, rfl, hz⟩
    have HZ := Hid.mk (lies_alloc (liesP_lies _ _ hz) (.cells #[.bool z.l, .slice z.ba z.bn z.bc, .slice z.ia z.m z.ic] 25))
    have HBX2 := Hid.mk ((HBX1.out.go hb2).alloc (.cells #[.bool z.l, .slice z.ba z.bn z.bc, .slice z.ia z.m z.ic] 25))
    have HLI2 := Hid.mk (lies_alloc (lies_mono hb2 t y HLI1.out) (.cells #[.bool z.l, .slice z.ba z.bn z.bc, .slice z.ia z.m z.ic] 25))
    have HB2 := Hid.mk (below_go (below_go HB1.out hb2) (below_new w2 (.cells #[.bool z.l, .slice z.ba z.bn z.bc, .slice z.ia z.m z.ic] 25)))
    have HBZ := Hid.mk (b1_new w2 z)
    clear hb2 hz HD HBX1 HLI1 HB1
    go_wp2_with fail
    refine (alive_any _).mono ?_
    rintro e w3 ⟨rfl, hb3⟩
    obtain ⟨p0, p1, p2⟩ := HBX2.out.go hb3
    obtain ⟨q0, q1, q2⟩ := HBZ.out.go hb3
    have HB3 := Hid.mk (below_go HB2.out hb3)
    have hs := rsame_any t t y z w3 (lies_mono hb3 t y HLI2.out) (lies_mono hb3 t z HZ.out)
    rw [teq_self] at hs
    have HS := Hid.mk hs
    clear hs hb3 HBX2 HBZ HB2 HLI2 HZ
    go_wp2_with fail
    refine HS.out.mono ?_
    rintro e w4 ⟨rfl, hb4⟩
    have HB4 := Hid.mk (below_go HB3.out hb4)
    clear hb4
    go_wp2_with fail
    go_ret
    exact ⟨rfl, HB4.out⟩
  · rw [encP_no hm] at he
    simp only at he
    have hr := fun v (h : Lies v t y) => right_any t y v h
    rw [decide_eq_false hm] at hr
    obtain ⟨er, her⟩ : ∃ er, (mP t).2 = er := ⟨_, rfl⟩
    rw [her] at he hm
    have hee : ((er : Int) != 0) = true := by rw [bne_iff_ne]; omega
    have HE := Hid.mk he
    have HR := Hid.mk hr
    clear he hm hli hr her
    go_enter Try.func6, Try.ntmps6
    go_wp2_with fail
    refine HE.out.mono ?_
    rintro e w1 ⟨⟨a1, n1, c1, rfl, hag1⟩, hb1⟩
    have hn1 : n1 = 0 := hag1.l.symm
    subst hn1
    have HBX1 := Hid.mk (HBX.out.go hb1)
    have HLI1 := Hid.mk (lies_mono hb1 t y HLI.out)
    have HB1 := Hid.mk (below_go HBN.out hb1)
    clear hag1 hb1 HE HBX HLI HBN
    go_wp2_with fail
    refine (alive_any _).mono ?_
    rintro e w3 ⟨rfl, hb3⟩
    obtain ⟨p0, p1, p2⟩ := HBX1.out.go hb3
    have HB3 := Hid.mk (below_go HB1.out hb3)
    have HS := Hid.mk (HR.out w3 (lies_mono hb3 t y HLI1.out))
    clear hb3 HBX1 HB1 HLI1 HR
    go_wp2_with fail
    refine HS.out.mono ?_
    rintro e w4 ⟨rfl, hb4⟩
    have HB4 := Hid.mk (below_go HB3.out hb4)
    clear hb4
    go_wp2_with fail
    go_ret
    exact ⟨rfl, HB4.out⟩
end Go.Proofs.Ytkbdkenpblcofaa

/- That NestDecodes answers true. -/
import Derived.Test.YtkbdkenpblcofaaG6
namespace Go.Proofs.Ytkbdkenpblcofaa
open Go.RowKit
set_option linter.unusedVariables false
set_option maxHeartbeats 2000000 in
theorem decodes_law (a : Option Addr) (n c : Nat) (b : List Int) (hn : n ≤ 140737488351232) (w : World) (hag : Ag w a n c b) :
    Calls Try.prog 5 #[.slice a n c] w fun e w' => e = .returned (.bool true) ∧ Below w.heap.size w w' := by
  have hd := decode_any a n c b w hag hn
  have hr := fun v (hb : Below w.heap.size w v) => rDecode_any a n c b v (hag.at hb) hn
  cases hdec : decP b with
  | bad er =>
    rw [hdec] at hd hr
    have HD := Hid.mk hd
    have HR := Hid.mk hr
    clear hd hr hdec hag
    go_enter Try.func5, Try.ntmps5
    go_wp2_with fail
    refine HD.out.mono ?_
    rintro e w1 ⟨hb1, rfl, her⟩
    have hb2 := below_go hb1 (below_new w1 (.cells #[.bool false, .slice none 0 0, .slice none 0 0] 25))
    have hx1 := b1_new w1 (⟨false, none, 0, 0, none, 0, 0⟩ : V)
    have HC := Hid.mk (HR.out _ hb2)
    have HB2 := Hid.mk hb2
    have HX1 := Hid.mk hx1
    clear hb1 hb2 hx1 HD HR her
    go_wp2_with fail
    refine HC.out.mono ?_
    rintro e w2 ⟨hb3, rfl, her⟩
    have HX2 := Hid.mk ((HX1.out.go hb3).alloc (.cells #[.bool false, .slice none 0 0, .slice none 0 0] 25))
    have HX3 := Hid.mk (b1_new w2 (⟨false, none, 0, 0, none, 0, 0⟩ : V))
    have HB4 := Hid.mk (below_go (below_go HB2.out hb3) (below_new w2 (.cells #[.bool false, .slice none 0 0, .slice none 0 0] 25)))
    clear hb3 HC HX1 HB2 her
    go_wp2_with fail
    refine (alive_any _).mono ?_
    rintro e w3 ⟨rfl, hb5⟩
    obtain ⟨p0, p1, p2⟩ := HX2.out.go hb5
    obtain ⟨q0, q1, q2⟩ := HX3.out.go hb5
    simp only at p0 p1 p2 q0 q1 q2
    have HB5 := Hid.mk (below_go HB4.out hb5)
    have HS := Hid.mk (rsame_zero w3)
    clear hb5 HX2 HX3 HB4
    go_wp2_with fail
    refine HS.out.mono ?_
    rintro e w4 ⟨rfl, hb6⟩
    have HB6 := Hid.mk (below_go HB5.out hb6)
    clear hb6
    go_wp2_with fail
    go_ret
    exact ⟨rfl, HB6.out⟩
  | ok t =>
    rw [hdec] at hd hr
    have HD := Hid.mk hd
    have HR := Hid.mk hr
    clear hd hr hdec hag
    go_enter Try.func5, Try.ntmps5
    go_wp2_with fail
    refine HD.out.mono ?_
    rintro e w1 ⟨hb1, y, rfl, hy⟩
    have hy1 := lies_alloc (liesP_lies _ _ hy) (.cells #[.bool y.l, .slice y.ba y.bn y.bc, .slice y.ia y.m y.ic] 25)
    have hb2 := below_go hb1 (below_new w1 (.cells #[.bool y.l, .slice y.ba y.bn y.bc, .slice y.ia y.m y.ic] 25))
    have hx1 := b1_new w1 y
    have HC := Hid.mk (HR.out _ hb2)
    have HB2 := Hid.mk hb2
    have HX1 := Hid.mk hx1
    have HY1 := Hid.mk hy1
    clear hb1 hb2 hx1 HD HR hy hy1
    go_wp2_with fail
    refine HC.out.mono ?_
    rintro e w2 ⟨hb3, z, rfl, hz⟩
    have HZ := Hid.mk (lies_alloc (liesP_lies _ _ hz) (.cells #[.bool z.l, .slice z.ba z.bn z.bc, .slice z.ia z.m z.ic] 25))
    have HY2 := Hid.mk (lies_alloc (lies_mono hb3 _ _ HY1.out) (.cells #[.bool z.l, .slice z.ba z.bn z.bc, .slice z.ia z.m z.ic] 25))
    have HX2 := Hid.mk ((HX1.out.go hb3).alloc (.cells #[.bool z.l, .slice z.ba z.bn z.bc, .slice z.ia z.m z.ic] 25))
    have HX3 := Hid.mk (b1_new w2 z)
    have HB4 := Hid.mk (below_go (below_go HB2.out hb3) (below_new w2 (.cells #[.bool z.l, .slice z.ba z.bn z.bc, .slice z.ia z.m z.ic] 25)))
    clear hb3 HC HX1 HB2 hz HY1
    go_wp2_with fail
    refine (alive_any _).mono ?_
    rintro e w3 ⟨rfl, hb5⟩
    obtain ⟨p0, p1, p2⟩ := HX2.out.go hb5
    obtain ⟨q0, q1, q2⟩ := HX3.out.go hb5
    have HB5 := Hid.mk (below_go HB4.out hb5)
    have hs := rsame_any t t y z w3 (lies_mono hb5 _ _ HY2.out) (lies_mono hb5 _ _ HZ.out)
    rw [teq_self] at hs
    have HS := Hid.mk hs
    clear hs HY2 HZ
    clear hb5 HX2 HX3 HB4
    go_wp2_with fail
    refine HS.out.mono ?_
    rintro e w4 ⟨rfl, hb6⟩
    have HB6 := Hid.mk (below_go HB5.out hb6)
    clear hb6
    go_wp2_with fail
    go_ret
    exact ⟨rfl, HB6.out⟩
end Go.Proofs.Ytkbdkenpblcofaa

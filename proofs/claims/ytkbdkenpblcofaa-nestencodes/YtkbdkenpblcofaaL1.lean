/- That NestEncodes answers true. -/
import Derived.Test.YtkbdkenpblcofaaE4
import Derived.Test.YtkbdkenpblcofaaM7r
namespace Go.Proofs.Ytkbdkenpblcofaa
open Go.RowKit
set_option linter.unusedVariables false
theorem encP_err (t : T) : (decide ((mP t).2 = 0)) = ((((encP t).2 : Nat) : Int) == 0) := by
  unfold encP
  by_cases h : (mP t).2 = 0
  · rw [if_pos h, decide_eq_true h]; rfl
  · rw [if_neg h, decide_eq_false h]
    simp only
    symm
    rw [beq_eq_false_iff_ne]
    omega
set_option maxHeartbeats 2000000 in
theorem encodes_law (t : T) (y : V) (w : World) (hli : Lies w t y) :
    Calls Try.prog 3 #[.agg #[.bool y.l, .slice y.ba y.bn y.bc, .slice y.ia y.m y.ic]] w fun e w' => e = .returned (.bool true) ∧ Below w.heap.size w w' := by
  have HBN := Hid.mk (below_new w (.cells #[.bool y.l, .slice y.ba y.bn y.bc, .slice y.ia y.m y.ic] 25))
  have HBX := Hid.mk (b1_new w y)
  have HLI := Hid.mk (lies_mono HBN.out t y hli)
  have he := encode_any t y _ HLI.out
  have hr := fun v (h : Lies v t y) => rencode_any t y v h
  have hg := fun v (h : Lies v t y) => right_any t y v h
  rw [encP_err] at hg
  obtain ⟨⟨bs, er⟩, hE⟩ : ∃ E, encP t = E := ⟨_, rfl⟩
  rw [hE] at he hr hg
  simp only at he hr hg
  have HE := Hid.mk he
  have HR := Hid.mk hr
  have HG := Hid.mk hg
  clear he hr hg hE hli
  obtain ⟨q, hq⟩ : ∃ q : Int, ((er : Nat) : Int) = q := ⟨_, rfl⟩
  rw [hq] at HE HR HG
  clear hq
  go_enter Try.func3, Try.ntmps3
  go_wp2_with fail
  refine HE.out.mono ?_
  rintro e w1 ⟨⟨a1, n1, c1, rfl, hag1⟩, hb1⟩
  obtain ⟨p0, p1, p2⟩ := HBX.out.go hb1
  have HA1 := Hid.mk hag1
  have HBX1 := Hid.mk (HBX.out.go hb1)
  have HLI1 := Hid.mk (lies_mono hb1 t y HLI.out)
  have HB1 := Hid.mk (below_go HBN.out hb1)
  have HC := Hid.mk (HR.out w1 HLI1.out)
  clear hag1 hb1 HE HBX HLI HBN HR
  go_wp2_with fail
  refine HC.out.mono ?_
  rintro e w2 ⟨⟨a2, n2, c2, rfl, hag2⟩, hb2⟩
  have HA2 := Hid.mk hag2
  have HA12 := Hid.mk (HA1.out.at hb2)
  have HBX2 := Hid.mk (HBX1.out.go hb2)
  have HLI2 := Hid.mk (lies_mono hb2 t y HLI1.out)
  have HB2 := Hid.mk (below_go HB1.out hb2)
  clear hag2 hb2 HC HBX1 HLI1 HB1 HA1 p0 p1 p2
  go_wp2_with fail
  refine (alive_any _).mono ?_
  rintro e w3 ⟨rfl, hb3⟩
  obtain ⟨p0, p1, p2⟩ := HBX2.out.go hb3
  have hs := same_any a1 a2 n1 c1 n2 c2 bs bs w3 (HA12.out.at hb3) (HA2.out.at hb3)
  rw [decide_eq_true rfl] at hs
  have HS := Hid.mk hs
  have HB3 := Hid.mk (below_go HB2.out hb3)
  have HC := Hid.mk (HG.out w3 (lies_mono hb3 t y HLI2.out))
  clear hs hb3 HBX2 HLI2 HB2 HA2 HA12 HG
  go_wp2_with fail
  refine HS.out.mono ?_
  rintro e w4 ⟨rfl, rfl⟩
  clear HS
  go_wp2_with fail
  refine HC.out.mono ?_
  rintro e w5 ⟨rfl, hb5⟩
  have HB5 := Hid.mk (below_go HB3.out hb5)
  clear hb5 HC
  go_wp2_with fail
  go_ret
  exact ⟨rfl, HB5.out⟩
end Go.Proofs.Ytkbdkenpblcofaa

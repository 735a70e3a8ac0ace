/- That NestShorter answers true. -/
import Derived.Test.YtkbdkenpblcofabX1
namespace Go.Proofs.Ytkbdkenpblcofab
open Go.RowKit
set_option linter.unusedVariables false
theorem ag_take {w : World} {a : Option Addr} {n c : Nat} {b : List Int} (h : Ag w a n c b) {k : Nat} (hk : k ≤ n) : Ag w a k c (b.take k) := by
  have hl := h.l
  refine ⟨?_, ?_, by rw [List.length_take]; omega, fun x hx => h.b x (List.mem_of_mem_take hx)⟩
  · by_cases h0 : k = 0
    · subst h0
      exact .inl ⟨rfl, by simp⟩
    · rcases h.i with ⟨h1, _⟩ | ⟨g, off, h1, h2, h3, h4, h5, h6⟩
      · omega
      · refine .inr ⟨g, off, h1, by rw [List.length_take]; omega, by omega, by omega, h5, fun j hj => ?_⟩
        rw [List.length_take] at hj
        rw [h6 j (by omega), List.getD, List.getD, List.getElem?_take_of_lt (by omega)]
  · intro ha
    have := h.nil ha
    omega
set_option maxHeartbeats 2000000 in
theorem shorter_law (t : T) (y : V) (n : Int) (hn : -9223372036854775808 ≤ n ∧ n ≤ 9223372036854775807) (w : World) (hli : Lies w t y) :
    Calls Try.prog 4 #[.agg #[.bool y.l, .slice y.ba y.bn y.bc, .slice y.ia y.m y.ic], .int .i64 n] w fun e w' => e = .returned (.bool true) ∧ Below w.heap.size w w' := by
  obtain ⟨hn1, hn2⟩ := hn
  have HBN := Hid.mk (below_new w (.cells #[.bool y.l, .slice y.ba y.bn y.bc, .slice y.ia y.m y.ic] 25))
  have HLI := Hid.mk (lies_mono HBN.out t y hli)
  have he := encode_any t y _ HLI.out
  by_cases hm : (mP t).2 = 0
  case neg =>
    rw [encP_no hm] at he
    simp only at he
    obtain ⟨er, her⟩ : ∃ er, (mP t).2 = er := ⟨_, rfl⟩
    rw [her] at he hm
    have hee : ((er : Int) != 0) = true := by rw [bne_iff_ne]; omega
    have HE := Hid.mk he
    clear he hm hli her
    go_enter Try.func4, Try.ntmps4
    go_wp2_with fail
    refine HE.out.mono ?_
    rintro e w1 ⟨⟨a1, n1, c1, rfl, hag1⟩, hb1⟩
    have HB1 := Hid.mk (below_go HBN.out hb1)
    clear hag1 hb1 HE HLI HBN
    go_wp2_with fail
    refine (alive_any _).mono ?_
    rintro e w3 ⟨rfl, hb3⟩
    have HB3 := Hid.mk (below_go HB1.out hb3)
    clear hb3
    go_wp2_with fail
    go_ret
    exact ⟨rfl, HB3.out⟩
  rw [encP_yes hm] at he
  simp only at he
  rw [show ((0 : Nat) : Int) = 0 from rfl] at he
  have HE := Hid.mk he
  have HM := Hid.mk hm
  clear he hm hli
  by_cases h0 : n < 0
  · go_enter Try.func4, Try.ntmps4
    go_wp2_with fail
    refine HE.out.mono ?_
    rintro e w1 ⟨⟨a1, n1, c1, rfl, hag1⟩, hb1⟩
    have HB1 := Hid.mk (below_go HBN.out hb1)
    clear hag1 hb1 HE HLI HBN
    go_wp2_with fail
    refine (alive_any _).mono ?_
    rintro e w3 ⟨rfl, hb3⟩
    have HB3 := Hid.mk (below_go HB1.out hb3)
    clear hb3
    go_wp2_with fail
    go_ret
    exact ⟨rfl, HB3.out⟩
  obtain ⟨k, rfl⟩ : ∃ k : Nat, n = k := ⟨n.toNat, by omega⟩
  go_enter Try.func4, Try.ntmps4
  go_wp2_with fail
  refine HE.out.mono ?_
  rintro e w1 ⟨⟨a1, n1, c1, rfl, hag1⟩, hb1⟩
  have HB1 := Hid.mk (below_go HBN.out hb1)
  have HAG1 := Hid.mk hag1
  clear hag1 hb1 HE HLI HBN
  by_cases hk : k < n1
  case neg =>
    have hki : (k : Int) ≥ n1 := by omega
    go_wp2_with fail
    refine (alive_any _).mono ?_
    rintro e w3 ⟨rfl, hb3⟩
    have HB3 := Hid.mk (below_go HB1.out hb3)
    clear hb3
    go_wp2_with fail
    go_ret
    exact ⟨rfl, HB3.out⟩
  have hki : ¬ (k : Int) ≥ n1 := by omega
  obtain ⟨g, off, rfl, hc1, hc2, _⟩ := ag_head HAG1.out (by omega)
  unfold maxLen at hc2
  have hel := enc_le HM.out
  rw [HAG1.out.l] at hel
  have hf := first_any _ k c1 ((enc t).take k) w1 (ag_take HAG1.out (by omega)) (by omega)
  rw [enc_short HM.out (by rw [HAG1.out.l]; exact hk)] at hf
  have HF := Hid.mk hf
  have hkc : (k : Int) ≤ c1 := by omega
  clear hf
  go_wp2_with fail
  refine HF.out.mono ?_
  rintro e w2 ⟨hb2, rfl, _⟩
  have HB2 := Hid.mk (below_go (below_go HB1.out hb2) (below_new w2 (.cells #[.bool false, .slice none 0 0, .slice none 0 0] 25)))
  have HBX := Hid.mk (b1_new w2 ⟨false, none, 0, 0, none, 0, 0⟩)
  clear hb2 HF
  rw [show ((22 : Nat) : Int) = 22 from rfl]
  go_wp2_with fail
  refine (alive_any _).mono ?_
  rintro e w3 ⟨rfl, hb3⟩
  obtain ⟨p0, p1, p2⟩ := HBX.out.go hb3
  simp only at p0 p1 p2
  have HB3 := Hid.mk (below_go HB2.out hb3)
  clear hb3 HBX HB2
  go_wp2_with fail
  refine (rsame_zero _).mono ?_
  rintro e w4 ⟨rfl, hb4⟩
  have HB4 := Hid.mk (below_go HB3.out hb4)
  clear hb4
  go_wp2_with fail
  go_ret
  exact ⟨rfl, HB4.out⟩
end Go.Proofs.Ytkbdkenpblcofab

/- That NestAhead answers true. -/
import Derived.Test.YtkbdkenpblcofaaX1
namespace Go.Proofs.Ytkbdkenpblcofaa
open Go.RowKit
set_option linter.unusedVariables false
theorem ownB_nil3 (w : World) (base : Nat) : OwnB w base (.slice none 0 0) [] := ⟨rfl, .inl ⟨rfl, rfl⟩⟩
theorem ag_take2 {w : World} {a : Option Addr} {n c : Nat} {b : List Int} (h : Ag w a n c b) {k : Nat} (hk : k ≤ n) : Ag w a k c (b.take k) := by
  have hl := h.l
  refine ⟨?_, ?_, by rw [List.length_take]; omega, fun x hx => h.b x (List.mem_of_mem_take hx)⟩
  · by_cases h0 : k = 0
    · subst h0
      exact .inl ⟨rfl, by simp⟩
    · rcases h.i with ⟨h1, _⟩ | ⟨g, off, h1, h2, h3, h4, h5, h6⟩
      · omega
      · refine .inr ⟨g, off, h1, by rw [List.length_take]; omega, by omega, by omega, h5, fun j hj => ?_⟩
        rw [List.length_take] at hj
        rw [h6 j (by omega), List.getD, List.getD, List.getElem?_take_of_lt (by omega)]
  · intro ha
    have := h.nil ha
    omega
/-- No encoding is the beginning of another one's. -/
theorem enc_prefix {x y : T} (hx : (mP x).2 = 0) (hy : (mP y).2 = 0) (h : enc x = (enc y).take (enc x).length) : x = y := by
  have h1 := enc_rd hx ((enc y).drop (enc x).length)
  have h2 := enc_rd hy []
  rw [List.append_nil] at h2
  have e : enc x ++ (enc y).drop (enc x).length = enc y := by
    conv => lhs; lhs; rw [h]
    exact List.take_append_drop _ _
  rw [e, h2] at h1
  injection h1 with e1 _
  exact e1.symm
set_option maxHeartbeats 4000000 in
theorem ahead_law (x y : T) (vx vy : V) (a : Option Addr) (n c : Nat) (b : List Int) (hn : n ≤ 140737488351232) (w : World) (hlx : Lies w x vx) (hly : Lies w y vy) (hag : Ag w a n c b) :
    Calls Try.prog 8 #[.agg #[.bool vx.l, .slice vx.ba vx.bn vx.bc, .slice vx.ia vx.m vx.ic], .agg #[.bool vy.l, .slice vy.ba vy.bn vy.bc, .slice vy.ia vy.m vy.ic], .slice a n c] w fun e w' => e = .returned (.bool true) ∧ Below w.heap.size w w' := by
  have hbx := bx_new w vx vy
  obtain ⟨W, hW⟩ : ∃ W, (w.alloc (.cells #[.bool vx.l, .slice vx.ba vx.bn vx.bc, .slice vx.ia vx.m vx.ic] 25)).alloc (.cells #[.bool vy.l, .slice vy.ba vy.bn vy.bc, .slice vy.ia vy.m vy.ic] 25) = W := ⟨_, rfl⟩
  rw [hW] at hbx
  have HWW := Hid.mk hW
  have HBX := Hid.mk hbx
  have HLX := Hid.mk (lies_mono hbx.bel x vx hlx)
  have HLY := Hid.mk (lies_mono hbx.bel y vy hly)
  have HAG := Hid.mk (hag.at hbx.bel)
  have hex := encode_any x vx W HLX.out
  have hey := fun v (hb : Below W.heap.size W v) => encode_any y vy v (lies_mono hb y vy HLY.out)
  clear hW hbx hlx hly hag
  obtain ⟨⟨ey, fy⟩, hEy⟩ : ∃ E, encP y = E := ⟨_, rfl⟩
  rw [hEy] at hey
  simp only at hey
  have HEY := Hid.mk hey
  have HEyq := Hid.mk hEy
  clear hey hEy
  by_cases hmx : (mP x).2 = 0
  case neg =>
    rw [encP_no hmx] at hex
    simp only at hex
    obtain ⟨er, her⟩ : ∃ er, (mP x).2 = er := ⟨_, rfl⟩
    rw [her] at hex hmx
    have hee : ((er : Int) != 0) = true := by rw [bne_iff_ne]; omega
    have HEX := Hid.mk hex
    clear hex hmx her
    go_enter Try.func8, Try.ntmps8
    go_upto_region 1 with fail
    rw [HWW.out]
    obtain ⟨c0, c1, c2, d0, d1, d2, _⟩ := HBX.out
    go_wp2_with fail
    refine HEX.out.mono ?_
    rintro e w1 ⟨⟨a1, n1, c1', rfl, hag1⟩, hb1⟩
    clear c0 c1 c2 d0 d1 d2
    obtain ⟨c0, c1, c2, d0, d1, d2, _⟩ := HBX.out.go hb1
    have HB1 := Hid.mk hb1
    clear hag1 hb1
    go_wp2_with fail
    refine (HEY.out _ HB1.out).mono ?_
    rintro e w2 ⟨⟨a2, n2, c2', rfl, hag2⟩, hb2⟩
    have HB2 := Hid.mk (below_go HB1.out hb2)
    clear hag2 hb2
    go_wp2_with fail
    refine (alive_any _).mono ?_
    rintro e w3 ⟨rfl, hb3⟩
    have HB3 := Hid.mk (below_go (below_go HBX.out.bel HB2.out) hb3)
    clear hb3
    go_wp2_with fail
    go_ret
    exact ⟨rfl, HB3.out⟩
  rw [encP_yes hmx] at hex
  simp only at hex
  rw [show ((0 : Nat) : Int) = 0 from rfl] at hex
  have HEX := Hid.mk hex
  have HMX := Hid.mk hmx
  have hlen := enc_le hmx
  obtain ⟨bx, hbx⟩ : ∃ bx, enc x = bx := ⟨_, rfl⟩
  rw [hbx] at hlen HEX
  have HBXE := Hid.mk hbx
  clear hex hmx hbx
  go_enter Try.func8, Try.ntmps8
  go_upto_region 1 with fail
  rw [HWW.out]
  obtain ⟨c0, c1, c2, d0, d1, d2, _⟩ := HBX.out
  go_wp2_with fail
  refine HEX.out.mono ?_
  rintro e w1 ⟨⟨a1, n1, c1', rfl, hag1⟩, hb1⟩
  clear c0 c1 c2 d0 d1 d2
  obtain ⟨c0, c1, c2, d0, d1, d2, _⟩ := HBX.out.go hb1
  have HB1 := Hid.mk hb1
  have hl1 := hag1.l
  have HA1 := Hid.mk hag1
  clear hag1 hb1 HEX
  go_wp2_with fail
  refine (HEY.out _ HB1.out).mono ?_
  rintro e w2 ⟨⟨a2, n2, c2', rfl, hag2⟩, hb2⟩
  have HB2 := Hid.mk (below_go HB1.out hb2)
  have HA2 := Hid.mk hag2
  have HA12 := Hid.mk (HA1.out.at hb2)
  have HBX2 := Hid.mk (HBX.out.go HB2.out)
  have HMEM := Hid.mk (mem_app HA1.out.b HAG.out.b)
  rw [hl1] at hlen
  have HL1 := Hid.mk hl1
  clear hag2 hb2 HEY HA1 c0 c1 c2 d0 d1 d2 hl1
  go_wp2_with (first
    | (at_builtin; refine app_any rfl (.const (.slice none 0 0)) (.tmp 29) rfl w2.heap.size _ [] rfl (ownB_nil3 w2 _) a1 n1 c1' bx rfl HA12.out.i HA12.out.nil HA12.out.l (by simp; omega) (Nat.le_refl _) ?_; intro v3 w3 o3 hb3; rw [List.nil_append] at o3; have HO3 := Hid.mk o3; have HB3 := Hid.mk hb3; clear o3 hb3)
    | (at_builtin; refine app_any rfl (.tmp 30) (.tmp 31) rfl w2.heap.size _ bx rfl HO3.out a n c b rfl ((HAG.out.at HB2.out).at HB3.out).i HAG.out.nil HAG.out.l (by rw [HL1.out]; omega) HB3.out.size ?_; intro v4 w4 o4 hb4; obtain ⟨a4, c4, rfl, hag4⟩ := OwnB.ag o4 HMEM.out; have HB4 := Hid.mk (HB3.out.trans hb4); have HA4 := Hid.mk hag4; clear o4 hb4 hag4; generalize hgl : (bx ++ b).length = len4 at HA4 ⊢; have HGL := Hid.mk hgl; clear hgl))
  have hf := first_any a4 len4 c4 (bx ++ b) w4 HA4.out (by have := HGL.out; rw [List.length_append, HL1.out, HAG.out.l] at this; omega)
  have hrd := enc_rd HMX.out b
  rw [HBXE.out, HL1.out] at hrd
  rw [hrd] at hf
  have HF := Hid.mk hf
  clear hf hrd
  refine HF.out.mono ?_
  rintro e w5 ⟨hb5, z, rfl, hz⟩
  have hw4 : Below w2.heap.size w2 w5 := HB4.out.trans (hb5.mono HB4.out.size)
  have hw6 := below_go hw4 (below_new w5 (.cells #[.bool z.l, .slice z.ba z.bn z.bc, .slice z.ia z.m z.ic] 25))
  have HZ := Hid.mk (lies_alloc (liesP_lies _ _ hz) (.cells #[.bool z.l, .slice z.ba z.bn z.bc, .slice z.ia z.m z.ic] 25))
  obtain ⟨c0, c1, c2, d0, d1, d2, _⟩ := HBX2.out.go hw6
  obtain ⟨e0, e1, e2⟩ := b1_new w5 z
  have HB6 := Hid.mk (below_go HB2.out hw6)
  have hs := rsame_any x x vx z _ (lies_mono HB6.out x vx HLX.out) HZ.out
  rw [teq_self] at hs
  have HS := Hid.mk hs
  have HA1 := Hid.mk (HA12.out.at hw6)
  have HA22 := Hid.mk (HA2.out.at hw6)
  clear hb5 hz hw4 hw6 hs HF HA2 HA12 HB3 HO3 HB4 HA4 HGL HZ
  go_wp2_with fail
  refine HS.out.mono ?_
  rintro e w6 ⟨rfl, hb7⟩
  have HB7 := Hid.mk (below_go HB6.out hb7)
  have HA17 := Hid.mk (HA1.out.at hb7)
  have HA27 := Hid.mk (HA22.out.at hb7)
  clear hb7 HA1 HA22 HS HB6 c0 c1 c2 d0 d1 d2 e0 e1 e2
  by_cases hfy : fy = 0
  case neg =>
    have hfi : ((fy : Int) == 0) = false := by rw [beq_eq_false_iff_ne]; omega
    go_wp2_with fail
    refine (alive_any _).mono ?_
    rintro e w8 ⟨rfl, hb8⟩
    have HB8 := Hid.mk (below_go (below_go HBX.out.bel HB7.out) hb8)
    clear hb8
    go_wp2_with fail
    go_ret
    exact ⟨rfl, HB8.out⟩
  subst hfy
  rw [show ((0 : Nat) : Int) = 0 from rfl]
  have hmy : (mP y).2 = 0 := by
    have := HEyq.out
    unfold encP at this
    by_cases h : (mP y).2 = 0
    · exact h
    · rw [if_neg h] at this
      exact (Prod.mk.inj this).2
  have hey : enc y = ey := by
    have := HEyq.out
    rw [encP_yes hmy] at this
    exact (Prod.mk.inj this).1
  have HEYY := Hid.mk hey
  have HMY := Hid.mk hmy
  have hl2 := HA27.out.l
  have HL2 := Hid.mk hl2
  have hsame := fun v (hb : Below W.heap.size W v) => rsame_any x y vx vy v (lies_mono hb x vx HLX.out) (lies_mono hb y vy HLY.out)
  have HSM := Hid.mk hsame
  clear hmy hey hl2 hsame
  by_cases hle : n1 ≤ n2
  case neg =>
    have hlei : ¬ (n1 : Int) ≤ n2 := by omega
    have hne : ¬ x = y := fun e => by
      subst e
      have h1 := HL1.out
      have h2 := HL2.out
      rw [← HEYY.out, HBXE.out] at h2
      omega
    rw [teq_false hne] at HSM
    clear hne
    go_wp2_with fail
    refine (alive_any _).mono ?_
    rintro e w8 ⟨rfl, hb8⟩
    have hb9 := below_go HB7.out hb8
    obtain ⟨c0, c1, c2, d0, d1, d2, _⟩ := HBX.out.go hb9
    have HC := Hid.mk (HSM.out _ hb9)
    have HB9 := Hid.mk hb9
    clear hb8 hb9
    go_wp2_with fail
    refine HC.out.mono ?_
    rintro e w9 ⟨rfl, hb10⟩
    have HB10 := Hid.mk (below_go (below_go HBX.out.bel HB9.out) hb10)
    clear hb10
    go_wp2_with fail
    go_ret
    exact ⟨rfl, HB10.out⟩
  have hlei : (n1 : Int) ≤ n2 := by omega
  have hcc : (n1 : Int) ≤ c2' := by
    rcases HA27.out.i with ⟨h1, _⟩ | ⟨_, _, _, _, _, h4, _⟩
    · omega
    · omega
  have hsm := same_any a1 a2 n1 c1' n1 c2' bx (ey.take n1) w6 HA17.out (ag_take2 HA27.out hle)
  have htq : decide (bx = ey.take n1) = teq x y := by
    by_cases h : x = y
    · rw [teq_true h, decide_eq_true]
      subst h
      rw [← HEYY.out, HBXE.out, List.take_of_length_le (by rw [HL1.out]; exact Nat.le_refl _)]
    · rw [teq_false h, decide_eq_false]
      intro e
      refine h (enc_prefix HMX.out HMY.out ?_)
      rw [HBXE.out, HL1.out, HEYY.out]
      exact e
  rw [htq] at hsm
  obtain ⟨q, hq⟩ : ∃ q, teq x y = q := ⟨_, rfl⟩
  rw [hq] at hsm HSM
  have HSA := Hid.mk hsm
  clear hsm htq hq
  have hc2n : a2 = none → n1 = 0 := fun h => by have := HA27.out.nil h; omega
  cases q with
  | true =>
    go_wp2_with fail
    refine HSA.out.mono ?_
    rintro e w7 ⟨rfl, rfl⟩
    clear HSA
    go_wp2_with fail
    refine (alive_any _).mono ?_
    rintro e w8 ⟨rfl, hb8⟩
    have hb9 := below_go HB7.out hb8
    obtain ⟨c0, c1, c2, d0, d1, d2, _⟩ := HBX.out.go hb9
    have HC := Hid.mk (HSM.out _ hb9)
    have HB9 := Hid.mk hb9
    clear hb8 hb9
    go_wp2_with fail
    refine HC.out.mono ?_
    rintro e w9 ⟨rfl, hb10⟩
    have HB10 := Hid.mk (below_go (below_go HBX.out.bel HB9.out) hb10)
    clear hb10
    go_wp2_with fail
    go_ret
    exact ⟨rfl, HB10.out⟩
  | false =>
    go_wp2_with fail
    refine HSA.out.mono ?_
    rintro e w7 ⟨rfl, rfl⟩
    clear HSA
    go_wp2_with fail
    refine (alive_any _).mono ?_
    rintro e w8 ⟨rfl, hb8⟩
    have hb9 := below_go HB7.out hb8
    obtain ⟨c0, c1, c2, d0, d1, d2, _⟩ := HBX.out.go hb9
    have HC := Hid.mk (HSM.out _ hb9)
    have HB9 := Hid.mk hb9
    clear hb8 hb9
    go_wp2_with fail
    refine HC.out.mono ?_
    rintro e w9 ⟨rfl, hb10⟩
    have HB10 := Hid.mk (below_go (below_go HBX.out.bel HB9.out) hb10)
    clear hb10
    go_wp2_with fail
    go_ret
    exact ⟨rfl, HB10.out⟩
end Go.Proofs.Ytkbdkenpblcofaa

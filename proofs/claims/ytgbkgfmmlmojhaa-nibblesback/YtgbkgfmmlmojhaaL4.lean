/- That NibblesBack answers true. -/
import Derived.Test.YtgbkgfmmlmojhaaV1
import Derived.Test.YtgbkgfmmlmojhaaD1
namespace Go.Proofs.Ytgbkgfmmlmojhaa
open Go.RowKit
set_option linter.unusedVariables false
set_option maxHeartbeats 1000000 in
theorem back_law (a : Option Addr) (n c : Nat) (p : List Int) (leaf : Bool) (hn : n ≤ 140737488351232) (w : World) (h : Ag w a n c p) :
    Calls Try.prog 6 #[.slice a n c, .bool leaf] w fun e w' => e = .returned (.bool true) ∧ Below w.heap.size w w' := by
  have HA := Hid.mk h
  have hl := h.l
  have hP := pack_any a n c p leaf w h (by omega)
  have hRR := fun v (hb : Below w.heap.size w v) => rright_any a n c p v (h.at hb) (by omega)
  have hR := fun v (hb : Below w.heap.size w v) => right_any a n c p v (h.at hb) (by omega)
  have hK := fun v (hb : Below w.heap.size w v) => key_any a n c p v (h.at hb) (by omega)
  by_cases hrt : rightP p = true
  case neg =>
    rw [packP_no hrt] at hP
    rw [keyP_no (fun hh => hrt hh.1)] at hK
    rw [show rightP p = false from by simpa using hrt] at hRR hR
    simp only at hP hK
    rw [show ((40 : Nat) : Int) = 40 from rfl] at hP
    have HP := Hid.mk hP
    have HRR := Hid.mk hRR
    have HR := Hid.mk hR
    have HK := Hid.mk hK
    clear h hl hP hRR hR hK hrt
    go_enter Try.func6, Try.ntmps6
    go_wp2_with fail
    refine HP.out.mono ?_
    rintro e w1 ⟨⟨b1, m1, rfl, hag⟩, hb⟩
    have hm : m1 = 0 := hag.l.symm
    subst hm
    have HB1 := Hid.mk hb
    clear hag hb
    go_wp2_with fail
    refine (HRR.out _ HB1.out).mono ?_
    rintro e w2 ⟨rfl, rfl⟩
    go_wp2_with fail
    refine (HK.out _ HB1.out).mono ?_
    rintro e w3 ⟨⟨b3, m3, rfl, hag⟩, hb⟩
    have HB3 := Hid.mk (below_go HB1.out hb)
    clear hag hb
    go_wp2_with fail
    refine (alive_any _).mono ?_
    rintro e w4 ⟨rfl, hb⟩
    have HB4 := Hid.mk (below_go HB3.out hb)
    clear hb
    go_wp2_with fail
    refine (HR.out _ HB4.out).mono ?_
    rintro e w5 ⟨rfl, rfl⟩
    go_wp2_with fail
    go_ret
    exact ⟨rfl, HB4.out⟩
  rw [packP_yes hrt] at hP
  rw [hrt] at hRR
  simp only at hP
  rw [show ((0 : Nat) : Int) = 0 from rfl] at hP
  have hU := unp_pack (p := p) (leaf := leaf) h.b hrt
  have hlen := pack_len (p := p) (leaf := leaf)
  rw [hl] at hP hU hlen
  generalize kk (hdP n leaf ++ p) = pb at *
  have HP := Hid.mk hP
  have HRR := Hid.mk hRR
  have HU := Hid.mk hU
  have HLEN := Hid.mk hlen
  by_cases he : n % 2 = 0
  · rw [keyP_yes hrt (by omega)] at hK
    simp only at hK
    have HNK := Hid.mk (nib_kk p h.b hrt (by omega))
    have HKL : Hid ((kk p).length = n / 2) := Hid.mk (by rw [kk_len, hl])
    generalize kk p = kp at *
    have HK := Hid.mk hK
    have hei : (n : Int) % 2 = 0 := by omega
    clear h hl hP hRR hR hK hrt hU hlen he
    go_enter Try.func6, Try.ntmps6
    go_wp2_with fail
    refine HP.out.mono ?_
    rintro e w1 ⟨⟨b1, m1, rfl, hag⟩, hb⟩
    have hm : m1 = n / 2 + 1 := hag.l.symm.trans HLEN.out
    have HB1 := Hid.mk hb
    have hu := fun v (hb : Below w1.heap.size w1 v) => unpack_any b1 m1 m1 pb v (hag.at hb) (by omega)
    rw [HU.out] at hu
    simp only at hu
    rw [show ((0 : Nat) : Int) = 0 from rfl] at hu
    have HUU := Hid.mk hu
    have hmi : ((m1 : Int) == (n : Int) / 2 + 1) = true := by rw [beq_iff_eq]; omega
    clear hag hb hu hm
    go_wp2_with fail
    refine (HRR.out _ HB1.out).mono ?_
    rintro e w2 ⟨rfl, rfl⟩
    go_wp2_with fail
    refine (HUU.out _ (Below.refl _ _)).mono ?_
    rintro e w3 ⟨⟨b3, m3, rfl, hcut⟩, hb⟩
    have HB3 := Hid.mk (below_go HB1.out hb)
    have HA3 := Hid.mk hcut.ag
    clear hcut hb
    go_wp2_with fail
    refine (HK.out _ HB3.out).mono ?_
    rintro e w4 ⟨⟨b4, m4, rfl, hag⟩, hb⟩
    have HB4 := Hid.mk (below_go HB3.out hb)
    have HA3 := Hid.mk (HA3.out.at hb)
    have hm4 : 2 * m4 ≤ n := by have h1 := hag.l; rw [HKL.out] at h1; omega
    have HA4 := Hid.mk hag
    clear hag hb
    go_wp2_with fail
    refine (alive_any _).mono ?_
    rintro e w5 ⟨rfl, hb⟩
    have HB5 := Hid.mk (below_go HB4.out hb)
    have HA4 := Hid.mk (HA4.out.at hb)
    have hs := same_any _ _ _ _ _ _ _ _ _ (HA3.out.at hb) (HA.out.at HB5.out)
    rw [decide_eq_true rfl] at hs
    have HS := Hid.mk hs
    clear hs hb
    go_wp2_with fail
    refine HS.out.mono ?_
    rintro e w6 ⟨rfl, rfl⟩
    have ho := of_any _ _ _ _ _ HA4.out (by omega)
    rw [HNK.out] at ho
    have HO := Hid.mk ho
    clear ho
    go_wp2_with fail
    refine HO.out.mono ?_
    rintro e w7 ⟨⟨b7, rfl, hcut⟩, hb⟩
    have HB7 := Hid.mk (below_go HB5.out hb)
    have hs := same_any _ _ _ _ _ _ _ _ _ hcut.ag (HA.out.at HB7.out)
    rw [decide_eq_true rfl] at hs
    have HS := Hid.mk hs
    clear hs hcut hb
    go_wp2_with fail
    refine HS.out.mono ?_
    rintro e w8 ⟨rfl, rfl⟩
    go_wp2_with fail
    go_ret
    exact ⟨rfl, HB7.out⟩
  · rw [keyP_no (fun hh => he (by rw [← hl]; exact hh.2))] at hK
    simp only at hK
    have HK := Hid.mk hK
    have hei : (n : Int) % 2 = 1 := by omega
    clear h hl hP hRR hR hK hrt hU hlen he
    go_enter Try.func6, Try.ntmps6
    go_wp2_with fail
    refine HP.out.mono ?_
    rintro e w1 ⟨⟨b1, m1, rfl, hag⟩, hb⟩
    have hm : m1 = n / 2 + 1 := hag.l.symm.trans HLEN.out
    have HB1 := Hid.mk hb
    have hu := fun v (hb : Below w1.heap.size w1 v) => unpack_any b1 m1 m1 pb v (hag.at hb) (by omega)
    rw [HU.out] at hu
    simp only at hu
    rw [show ((0 : Nat) : Int) = 0 from rfl] at hu
    have HUU := Hid.mk hu
    have hmi : ((m1 : Int) == (n : Int) / 2 + 1) = true := by rw [beq_iff_eq]; omega
    clear hag hb hu hm
    go_wp2_with fail
    refine (HRR.out _ HB1.out).mono ?_
    rintro e w2 ⟨rfl, rfl⟩
    go_wp2_with fail
    refine (HUU.out _ (Below.refl _ _)).mono ?_
    rintro e w3 ⟨⟨b3, m3, rfl, hcut⟩, hb⟩
    have HB3 := Hid.mk (below_go HB1.out hb)
    have HA3 := Hid.mk hcut.ag
    clear hcut hb
    go_wp2_with fail
    refine (HK.out _ HB3.out).mono ?_
    rintro e w4 ⟨⟨b4, m4, rfl, hag⟩, hb⟩
    have HB4 := Hid.mk (below_go HB3.out hb)
    have HA3 := Hid.mk (HA3.out.at hb)
    clear hag hb
    go_wp2_with fail
    refine (alive_any _).mono ?_
    rintro e w5 ⟨rfl, hb⟩
    have HB5 := Hid.mk (below_go HB4.out hb)
    have hs := same_any _ _ _ _ _ _ _ _ _ (HA3.out.at hb) (HA.out.at HB5.out)
    rw [decide_eq_true rfl] at hs
    have HS := Hid.mk hs
    clear hs hb
    go_wp2_with fail
    refine HS.out.mono ?_
    rintro e w6 ⟨rfl, rfl⟩
    go_wp2_with fail
    go_ret
    exact ⟨rfl, HB5.out⟩
end Go.Proofs.Ytgbkgfmmlmojhaa

/- That NibblesKeys answers true. -/
import Derived.Test.YtgbkgfmmlmojhaaV1
import Derived.Test.YtgbkgfmmlmojhaaD2
import Derived.Test.YtgbkgfmmlmojhaaD4
namespace Go.Proofs.Ytgbkgfmmlmojhaa
open Go.RowKit
set_option linter.unusedVariables false
set_option maxHeartbeats 1000000 in
theorem keys_law (a1 : Option Addr) (n1 c1 : Nat) (b1 : List Int) (a2 : Option Addr) (n2 c2 : Nat) (b2 : List Int) (hn1 : n1 ≤ 1048576) (hn2 : n2 ≤ 1048576) (w : World) (h1 : Ag w a1 n1 c1 b1) (h2 : Ag w a2 n2 c2 b2) :
    Calls Try.prog 3 #[.slice a1 n1 c1, .slice a2 n2 c2] w fun e w' => e = .returned (.bool true) ∧ Below w.heap.size w w' := by
  have HA1 := Hid.mk h1
  have HA2 := Hid.mk h2
  have HK := Hid.mk (key_any a2 n2 c2 b2 w h2 (by omega))
  have HRK := Hid.mk (fun v (hb : Below w.heap.size w v) => rkey_any a2 n2 c2 b2 v (h2.at hb) (by omega))
  obtain ⟨⟨kb, kt⟩, hkp⟩ : ∃ k, keyP b2 = k := ⟨_, rfl⟩
  rw [hkp] at HK HRK
  simp only at HK HRK
  clear h1 h2 hkp
  go_enter Try.func3, Try.ntmps3
  go_wp2_with fail
  refine HK.out.mono ?_
  rintro e w1 ⟨⟨a3, m3, rfl, hag3⟩, hb1⟩
  have HA3 := Hid.mk hag3
  have HB1 := Hid.mk hb1
  clear hag3 hb1 HK
  go_wp2_with fail
  refine (HRK.out _ HB1.out).mono ?_
  rintro e w2 ⟨⟨a4, m4, c4, rfl, hag4⟩, hb2⟩
  have HA3 := Hid.mk (HA3.out.at hb2)
  have HA4 := Hid.mk hag4
  have HB2 := Hid.mk (below_go HB1.out hb2)
  clear hag4 hb2 HRK HB1
  go_wp2_with fail
  refine (alive_any _).mono ?_
  rintro e w3 ⟨rfl, hb3⟩
  have HA3 := Hid.mk (HA3.out.at hb3)
  have HA4 := Hid.mk (HA4.out.at hb3)
  have HB3 := Hid.mk (below_go HB2.out hb3)
  clear hb3 HB2
  go_wp2_with fail
  refine (of_any a1 n1 c1 b1 _ (HA1.out.at HB3.out) (by omega)).mono ?_
  rintro e w4 ⟨⟨a5, rfl, hcut⟩, hb4⟩
  have HA3 := Hid.mk (HA3.out.at hb4)
  have HA4 := Hid.mk (HA4.out.at hb4)
  have HA5 := Hid.mk hcut.ag
  have HB4 := Hid.mk (below_go HB3.out hb4)
  clear hcut hb4 HB3
  go_wp2_with fail
  refine (rof_any a1 n1 c1 b1 _ (HA1.out.at HB4.out) (by omega)).mono ?_
  rintro e w5 ⟨⟨a6, c6, rfl, _, _, hag6⟩, hb5⟩
  have HA3 := Hid.mk (HA3.out.at hb5)
  have HA4 := Hid.mk (HA4.out.at hb5)
  have HA5 := Hid.mk (HA5.out.at hb5)
  have HA6 := Hid.mk hag6
  have HB5 := Hid.mk (below_go HB4.out hb5)
  clear hag6 hb5 HB4
  have hs := same_any _ _ _ _ _ _ _ _ _ HA5.out HA6.out
  rw [decide_eq_true rfl] at hs
  have HS := Hid.mk hs
  clear hs
  go_wp2_with fail
  refine HS.out.mono ?_
  rintro e w6 ⟨rfl, rfl⟩
  clear HS
  have hs := same_any _ _ _ _ _ _ _ _ _ HA3.out HA4.out
  rw [decide_eq_true rfl] at hs
  have HS := Hid.mk hs
  clear hs
  go_wp2_with fail
  refine HS.out.mono ?_
  rintro e w7 ⟨rfl, rfl⟩
  clear HS
  go_wp2_with fail
  refine (right_any a2 n2 c2 b2 _ (HA2.out.at HB5.out) (by omega)).mono ?_
  rintro e w8 ⟨rfl, rfl⟩
  go_wp2_with fail
  refine (rright_any a2 n2 c2 b2 _ (HA2.out.at HB5.out) (by omega)).mono ?_
  rintro e w9 ⟨rfl, rfl⟩
  go_wp2_with fail
  go_ret
  exact ⟨rfl, HB5.out⟩
end Go.Proofs.Ytgbkgfmmlmojhaa

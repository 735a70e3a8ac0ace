/- That NibblesPacks answers true. -/
import Derived.Test.YtgbkgfmmlmojhaaV1
import Derived.Test.YtgbkgfmmlmojhaaD3
import Derived.Test.YtgbkgfmmlmojhaaD5
namespace Go.Proofs.Ytgbkgfmmlmojhaa
open Go.RowKit
set_option linter.unusedVariables false
set_option maxHeartbeats 1000000 in
theorem packs_law (a1 : Option Addr) (n1 c1 : Nat) (p : List Int) (leaf : Bool) (a2 : Option Addr) (n2 c2 : Nat) (b : List Int) (hn1 : n1 ≤ 1048576) (hn2 : n2 ≤ 1048576) (w : World) (h1 : Ag w a1 n1 c1 p) (h2 : Ag w a2 n2 c2 b) :
    Calls Try.prog 4 #[.slice a1 n1 c1, .bool leaf, .slice a2 n2 c2] w fun e w' => e = .returned (.bool true) ∧ Below w.heap.size w w' := by
  have hP := fun v (hb : Below w.heap.size w v) => pack_any a1 n1 c1 p leaf v (h1.at hb) (by omega)
  have hRP := fun v (hb : Below w.heap.size w v) => rpack_any a1 n1 c1 p leaf v (h1.at hb) (by omega)
  have hU := fun v (hb : Below w.heap.size w v) => unpack_any a2 n2 c2 b v (h2.at hb) (by omega)
  have hRU := fun v (hb : Below w.heap.size w v) => runpack_any a2 n2 c2 b v (h2.at hb) (by omega)
  obtain ⟨⟨x, e1⟩, hx⟩ : ∃ r, packP p leaf = r := ⟨_, rfl⟩
  obtain ⟨⟨q, l, e2⟩, hq⟩ : ∃ r, unpP b = r := ⟨_, rfl⟩
  rw [hx] at hP hRP
  rw [hq] at hU hRU
  simp only at hP hRP hU hRU
  generalize ((e1 : Nat) : Int) = f1 at *
  generalize ((e2 : Nat) : Int) = f2 at *
  have HP := Hid.mk hP
  have HRP := Hid.mk hRP
  have HU := Hid.mk hU
  have HRU := Hid.mk hRU
  clear h1 h2 hx hq hP hRP hU hRU
  go_enter Try.func4, Try.ntmps4
  go_wp2_with fail
  refine (HP.out _ (Below.refl _ _)).mono ?_
  rintro e w1 ⟨⟨b1, m1, rfl, hag⟩, hb⟩
  have HA1 := Hid.mk hag
  have HB1 := Hid.mk hb
  clear hag hb
  go_wp2_with fail
  refine (HRP.out _ HB1.out).mono ?_
  rintro e w2 ⟨⟨b2, m2, d2, rfl, hag⟩, hb⟩
  have HA1 := Hid.mk (HA1.out.at hb)
  have HA2 := Hid.mk hag
  have HB2 := Hid.mk (below_go HB1.out hb)
  clear hag hb
  go_wp2_with fail
  refine (HU.out _ HB2.out).mono ?_
  rintro e w3 ⟨⟨b3, m3, rfl, hcut⟩, hb⟩
  have HA1 := Hid.mk (HA1.out.at hb)
  have HA2 := Hid.mk (HA2.out.at hb)
  have HA3 := Hid.mk hcut.ag
  have HB3 := Hid.mk (below_go HB2.out hb)
  clear hcut hb
  go_wp2_with fail
  refine (HRU.out _ HB3.out).mono ?_
  rintro e w4 ⟨⟨b4, m4, d4, rfl, hag⟩, hb⟩
  have HA1 := Hid.mk (HA1.out.at hb)
  have HA2 := Hid.mk (HA2.out.at hb)
  have HA3 := Hid.mk (HA3.out.at hb)
  have HA4 := Hid.mk hag
  have HB4 := Hid.mk (below_go HB3.out hb)
  clear hag hb
  go_wp2_with fail
  refine (alive_any _).mono ?_
  rintro e w5 ⟨rfl, hb⟩
  have h1 := same_any _ _ _ _ _ _ _ _ _ (HA1.out.at hb) (HA2.out.at hb)
  have h2 := same_any _ _ _ _ _ _ _ _ _ (HA3.out.at hb) (HA4.out.at hb)
  rw [decide_eq_true rfl] at h1 h2
  have HS1 := Hid.mk h1
  have HS2 := Hid.mk h2
  have HB5 := Hid.mk (below_go HB4.out hb)
  clear hb h1 h2
  go_wp2_with fail
  refine HS1.out.mono ?_
  rintro e w6 ⟨rfl, rfl⟩
  go_wp2_with fail
  refine HS2.out.mono ?_
  rintro e w7 ⟨rfl, rfl⟩
  go_wp2_with fail
  go_ret
  exact ⟨rfl, HB5.out⟩
end Go.Proofs.Ytgbkgfmmlmojhaa

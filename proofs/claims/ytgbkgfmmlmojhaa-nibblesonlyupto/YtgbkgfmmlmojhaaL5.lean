/- That NibblesOnly answers true. -/
import Derived.Test.YtgbkgfmmlmojhaaV1
namespace Go.Proofs.Ytgbkgfmmlmojhaa
open Go.RowKit
set_option linter.unusedVariables false
set_option maxHeartbeats 1000000 in
theorem only_law (a : Option Addr) (n c : Nat) (b : List Int) (hn : n ≤ 1048576) (w : World) (h : Ag w a n c b) :
    Calls Try.prog 7 #[.slice a n c] w fun e w' => e = .returned (.bool true) ∧ Below w.heap.size w w' := by
  have HA := Hid.mk h
  have HBB : Hid (isB b) := Hid.mk h.b
  have HKN := Hid.mk (key_nib h.b)
  have HRN := Hid.mk (right_nib h.b)
  have hun := Hid.mk (unp_cases b)
  have HPU := Hid.mk (pack_unp (b := b) h.b)
  have HUL := Hid.mk (unp_le b)
  have HL := Hid.mk h.l
  clear h
  go_enter Try.func7, Try.ntmps7
  go_wp2_with fail
  refine (of_any a n c b _ HA.out (by omega)).mono ?_
  rintro e w1 ⟨⟨a1, rfl, hcut⟩, hb⟩
  have HB1 := Hid.mk hb
  have HA1 := Hid.mk hcut.ag
  have hk := key_any a1 (2 * n) (2 * n) (nib b) w1 hcut.ag (by omega)
  rw [HKN.out] at hk
  simp only at hk
  have HK := Hid.mk hk
  clear hcut hb hk
  go_wp2_with fail
  refine HK.out.mono ?_
  rintro e w2 ⟨⟨a2, m2, rfl, hag2⟩, hb⟩
  have HA2 := Hid.mk hag2
  have HA1 := Hid.mk (HA1.out.at hb)
  have HB2 := Hid.mk (below_go HB1.out hb)
  clear hag2 hb HK HB1
  go_wp2_with fail
  refine (alive_any _).mono ?_
  rintro e w3 ⟨rfl, hb⟩
  have HA2 := Hid.mk (HA2.out.at hb)
  have HA1 := Hid.mk (HA1.out.at hb)
  have HB3 := Hid.mk (below_go HB2.out hb)
  clear hb HB2
  have hs := same_any _ _ _ _ _ _ _ _ _ HA2.out (HA.out.at HB3.out)
  rw [decide_eq_true rfl] at hs
  have HS := Hid.mk hs
  have hr := right_any _ _ _ _ _ HA1.out (by omega)
  rw [HRN.out] at hr
  have HR := Hid.mk hr
  clear hs hr
  go_wp2_with fail
  refine HS.out.mono ?_
  rintro e w4 ⟨rfl, rfl⟩
  clear HS
  go_wp2_with fail
  refine HR.out.mono ?_
  rintro e w5 ⟨rfl, rfl⟩
  clear HR
  have hu := unpack_any a n c b _ (HA.out.at HB3.out) (by omega)
  rcases hun.out with h0 | h40
  · have hpu := HPU.out h0
    have hul := HUL.out
    obtain ⟨⟨q, l, e⟩, hq⟩ : ∃ r, unpP b = r := ⟨_, rfl⟩
    rw [hq] at hu hpu h0 hul
    simp only at hu hpu h0 hul
    subst h0
    rw [show ((0 : Nat) : Int) = 0 from rfl] at hu
    have HU := Hid.mk hu
    have HPP := Hid.mk hpu
    have HQL : Hid (q.length ≤ 2 * n) := Hid.mk (by rw [← HL.out]; exact hul)
    clear hu hpu hq hul
    go_wp2_with fail
    refine HU.out.mono ?_
    rintro e w6 ⟨⟨a6, m6, rfl, hcut⟩, hb⟩
    have HB6 := Hid.mk (below_go HB3.out hb)
    have hp := pack_any a6 m6 m6 q l w6 hcut.ag (by have h1 := hcut.ag.l; have h2 := HQL.out; omega)
    rw [HPP.out] at hp
    simp only at hp
    rw [show ((0 : Nat) : Int) = 0 from rfl] at hp
    have HP := Hid.mk hp
    clear hcut hb hp HU
    go_wp2_with fail
    refine HP.out.mono ?_
    rintro e w7 ⟨⟨a7, m7, rfl, hag7⟩, hb⟩
    have HB7 := Hid.mk (below_go HB6.out hb)
    have hs := same_any _ _ _ _ _ _ _ _ _ hag7 (HA.out.at HB7.out)
    rw [decide_eq_true rfl] at hs
    have HS := Hid.mk hs
    clear hag7 hb hs HP
    go_wp2_with fail
    refine HS.out.mono ?_
    rintro e w8 ⟨rfl, rfl⟩
    clear HS
    go_wp2_with fail
    go_ret
    exact ⟨rfl, HB7.out⟩
  · rw [h40] at hu
    simp only at hu
    rw [show ((40 : Nat) : Int) = 40 from rfl] at hu
    have HU := Hid.mk hu
    clear hu h40
    go_wp2_with fail
    refine HU.out.mono ?_
    rintro e w6 ⟨⟨a6, m6, rfl, hcut⟩, hb⟩
    have HB6 := Hid.mk (below_go HB3.out hb)
    have hm : m6 = 0 := hcut.ag.l.symm
    subst hm
    clear hcut hb HU
    go_wp2_with fail
    go_ret
    exact ⟨rfl, HB6.out⟩
end Go.Proofs.Ytgbkgfmmlmojhaa

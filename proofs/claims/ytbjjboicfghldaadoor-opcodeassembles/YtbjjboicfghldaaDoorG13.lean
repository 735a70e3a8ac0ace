/- What Key answers, the program's and the document's. -/
import Derived.Test.YtbjjboicfghldaaDoorG06
import Derived.Test.YtbjjboicfghldaaDoorG07
namespace Go.Proofs.YtbjjboicfghldaaDoor.Wo
open Go.RowKit
set_option linter.unusedVariables false
theorem key_any (x : Int) (hx0 : 0 ≤ x) (hx1 : x < 18446744073709551616) (w : World) :
    Calls Tryd.prog 37 #[.int .u64 x] w fun e w' => e = .returned (.slice (some ⟨w.heap.size, 0, none⟩) 8 8) ∧ Row w.heap.size w' (bek 8 x.toNat) ∧ Below w.heap.size w w' := by
  have h2 := lowBytes_any x 8 hx0 hx1 (by omega) w
  rw [show ((8 : Nat) : Int) = 8 from rfl] at h2
  generalize bek 8 x.toNat = bs at *
  go_enter Tryd.func37, Tryd.ntmps37
  go_wp2_with fail
  refine h2.mono ?_
  rintro e w2 ⟨rfl, hr, hb⟩
  have HR := Hid.mk hr
  have HB := Hid.mk hb
  clear hr hb h2
  go_wp2_with fail
  go_ret
  exact ⟨rfl, HR.out, HB.out⟩
set_option maxHeartbeats 1000000 in
theorem rkey_any (x : Int) (hx0 : 0 ≤ x) (hx1 : x < 18446744073709551616) (w : World) :
    Calls Tryd.prog 55 #[.int .u64 x] w fun e w' => (∃ a c, e = .returned (.slice a 8 c) ∧ Ag w' a 8 c (bek 8 x.toNat) ∧ Lo w.heap.size a) ∧ Below w.heap.size w w' := by
  have H1 := Hid.mk (rbytes_any x hx0 hx1 w)
  have H8 : Hid (nb x.toNat ≤ 8) := Hid.mk (nb8 (by omega))
  have HE := Hid.mk (be_bek x.toNat)
  have HQ : Hid (∀ m, nb x.toNat ≤ m → x.toNat < 256 ^ m) := Hid.mk fun m => (nb_le_iff _ _).1
  generalize x.toNat = n at *
  generalize nb n = k at *
  go_enter Tryd.func55, Tryd.ntmps55
  go_wp2_with fail
  refine H1.out.mono ?_
  rintro e w1 ⟨⟨a, c, rfl, hag, hlo⟩, hb⟩
  rw [HE.out] at hag
  have HA := Hid.mk hag
  have HB := Hid.mk hb
  have HW := Hid.mk hlo
  clear hag hb hlo
  go_wp2_with fail
  go_loopw [3] (fun q v => ∃ (a : Option Addr) (m c : Nat), q = .slice a m c ∧ k ≤ m ∧ m ≤ 8 ∧ Ag v a m c (bek m n) ∧ Lo w.heap.size a ∧ Below w.heap.size w v) (fun q _ => 8 - (match q with | .slice _ m _ => m | _ => 0))
  case atStart => exact ⟨a, k, c, rfl, Nat.le_refl _, H8.out, HA.out, HW.out, HB.out⟩
  case round =>
    clear HA HW
    obtain ⟨a, m, c, rfl, hkm, hm8, hag, hlo, hb⟩ := hrel
    have HW := Hid.mk hlo
    clear hlo
    have HA := Hid.mk hag
    have HBB := Hid.mk hb
    clear hag hb
    by_cases h8 : m = 8
    · subst h8
      clear hkm
      go_wp2_with fail
      go_ret
      exact ⟨⟨a, c, rfl, HA.out, HW.out⟩, HBB.out⟩
    · have hmi : (m : Int) < 8 := by omega
      have hpad := bek_pad (HQ.out m hkm)
      have HO : Hid (∀ z ∈ [0] ++ bek m n, 0 ≤ z ∧ z < 256) := Hid.mk (mem_app (by decide) HA.out.b)
      have HP : Hid ([0] ++ bek m n = bek (m + 1) n) := Hid.mk hpad.symm
      have HL : Hid ((bek (m + 1) n).length = m + 1) := Hid.mk (bek_len _ _)
      clear hpad
      go_wp2_with (first | (at_builtin; refine app_any rfl (.tmp 9) (.tmp 10) rfl wr.heap.size _ [0] rfl (OwnB.one wr _) a m c (bek m n) rfl (HA.out.at ((Below.refl _ _).alloc (Nat.le_refl _) _)).i HA.out.nil HA.out.l (by simp; omega) (by simp) ?_; intro v1 w1 o1 hb1; obtain ⟨a1, c1, rfl, hag1⟩ := OwnB.ag o1 HO.out; have HW1 := Hid.mk (OwnB.lo o1); rw [HP.out, HL.out] at hag1; rw [HP.out, HL.out]; have HG := Hid.mk hag1; have HB1 := Hid.mk hb1; clear o1 hag1 hb1))
      refine ⟨⟨a1, m + 1, c1, rfl, by omega, by omega, HG.out, (fun g off e => Nat.le_trans HBB.out.size (HW1.out g off e)), ?_⟩, by simp; omega⟩
      exact HBB.out.trans ((((Below.refl _ _).alloc (Nat.le_refl _) _).trans HB1.out).mono HBB.out.size)
end Go.Proofs.YtbjjboicfghldaaDoor.Wo

/- What the document's Bytes and Key answer. -/
import Derived.Test.YticbfhfmigdhiaaB2
namespace Go.Proofs.Yticbfhfmigdhiaa
open Go.RowKit
set_option linter.unusedVariables false
theorem OwnB.one (w : World) (z : Int) : OwnB (w.alloc (.cells #[.int .u8 z] 5)) w.heap.size (.slice (some ⟨w.heap.size, 0, none⟩) 1 1) [z] :=
  ⟨rfl, .inr ⟨w.heap.size, 1, #[.int .u8 z], rfl, Nat.le_refl _, heap_alloc_new _ _, Nat.le_refl _, by unfold maxLen; omega, rfl, rfl⟩⟩
theorem ag_nil (w : World) : Ag w none 0 0 [] := ⟨.inl ⟨rfl, rfl⟩, fun _ => ⟨rfl, rfl⟩, rfl, fun x hx => by cases hx⟩
set_option maxHeartbeats 1000000 in
theorem rbytes_any (x : Int) (hx0 : 0 ≤ x) (hx1 : x < 18446744073709551616) (w : World) :
    Calls Try.prog 18 #[.int .u64 x] w fun e w' => (∃ a c, e = .returned (.slice a (nb x.toNat) c) ∧ Ag w' a (nb x.toNat) c (be x.toNat)) ∧ Below w.heap.size w w' := by
  have HN : Hid (nb x.toNat ≤ 8) := Hid.mk (nb8 (by omega))
  obtain ⟨g, hg⟩ : ∃ g, be x.toNat = g := ⟨_, rfl⟩
  have HL : Hid (g.length = nb x.toNat) := Hid.mk (by rw [← hg, be_len])
  rw [hg]
  have HG := Hid.mk hg
  generalize nb x.toNat = k at *
  clear hg
  go_enter Try.func18, Try.ntmps18
  go_wp2_with fail
  go_loopw [0, 3] (fun p q v => ∃ (y : Int) (a : Option Addr) (m c : Nat) (bs : List Int), p = .int .u64 y ∧ q = .slice a m c ∧ 0 ≤ y ∧ y < 18446744073709551616 ∧ g = be y.toNat ++ bs ∧ Ag v a m c bs ∧ Below w.heap.size w v) (fun p _ _ => (intOf p).toNat)
  case atStart => exact ⟨x, none, 0, 0, [], rfl, rfl, hx0, hx1, by rw [List.append_nil]; exact HG.out.symm, ag_nil w, Below.refl _ _⟩
  case round =>
    obtain ⟨y, a, m, c, bs, rfl, rfl, hy0, hy1, hgb, hag, hb⟩ := hrel
    have hlen := congrArg List.length hgb
    rw [List.length_append, hag.l, HL.out] at hlen
    have hm8 := HN.out
    by_cases hz : y = 0
    · subst hz
      rw [show (0 : Int).toNat = 0 from rfl, be_zero, List.nil_append] at hgb
      rw [show (0 : Int).toNat = 0 from rfl, be_zero] at hlen
      have hmk : k = m := by simpa using hlen
      subst hmk hgb
      have HA := Hid.mk hag
      have HB := Hid.mk hb
      clear hag hb hlen hm8
      go_wp2_with fail
      go_ret
      exact ⟨⟨a, c, rfl, HA.out⟩, HB.out⟩
    · have hyp : y > 0 := by omega
      have hbe := be_pos (n := y.toNat) (by omega)
      have e1 : y.toNat / 256 = (y / 256).toNat := by omega
      have e2 : ((y.toNat % 256 : Nat) : Int) = y % 256 := by omega
      rw [e1, e2] at hbe
      rw [hbe, List.append_assoc] at hgb
      have HGB := Hid.mk hgb
      have HA := Hid.mk hag
      have HB := Hid.mk hb
      have hmk : m ≤ 8 := by omega
      clear hag hb hbe e1 e2 hgb hlen hm8
      have HO : Hid (∀ z ∈ [y % 256] ++ bs, 0 ≤ z ∧ z < 256) := Hid.mk (mem_app (fun z hz => by
        have e : z = y % 256 := by simpa using hz
        omega) HA.out.b)
      go_wp2_with (first | (at_builtin; refine app_any rfl (.tmp 9) (.tmp 10) rfl wr.heap.size _ [y % 256] rfl (OwnB.one wr _) a m c bs rfl (HA.out.at ((Below.refl _ _).alloc (Nat.le_refl _) _)).i HA.out.nil HA.out.l (by simp; omega) (by simp) ?_; intro v1 w1 o1 hb1; obtain ⟨a1, c1, rfl, hag1⟩ := OwnB.ag o1 HO.out; generalize hgl : ([y % 256] ++ bs).length = m1 at hag1; generalize hgb : [y % 256] ++ bs = bs1 at hag1 HGB; clear o1))
      refine ⟨⟨y / 256, a1, m1, c1, bs1, rfl, rfl, by omega, by omega, HGB.out, hag1, ?_⟩, by simp [intOf]; omega⟩
      exact HB.out.trans ((((Below.refl _ _).alloc (Nat.le_refl _) _).trans hb1).mono HB.out.size)
theorem bek_pad {k n : Nat} (h : n < 256 ^ k) : bek (k + 1) n = 0 :: bek k n := by rw [bek_front, Nat.div_eq_of_lt h]; rfl
set_option maxHeartbeats 1000000 in
theorem rkey_any (x : Int) (hx0 : 0 ≤ x) (hx1 : x < 18446744073709551616) (w : World) :
    Calls Try.prog 23 #[.int .u64 x] w fun e w' => (∃ a c, e = .returned (.slice a 8 c) ∧ Ag w' a 8 c (bek 8 x.toNat)) ∧ Below w.heap.size w w' := by
  have H1 := Hid.mk (rbytes_any x hx0 hx1 w)
  have H8 : Hid (nb x.toNat ≤ 8) := Hid.mk (nb8 (by omega))
  have HE := Hid.mk (be_bek x.toNat)
  have HQ : Hid (∀ m, nb x.toNat ≤ m → x.toNat < 256 ^ m) := Hid.mk fun m => (nb_le_iff _ _).1
  generalize x.toNat = n at *
  generalize nb n = k at *
  go_enter Try.func23, Try.ntmps23
  go_wp2_with fail
  refine H1.out.mono ?_
  rintro e w1 ⟨⟨a, c, rfl, hag⟩, hb⟩
  rw [HE.out] at hag
  have HA := Hid.mk hag
  have HB := Hid.mk hb
  clear hag hb
  go_wp2_with fail
  go_loopw [3] (fun q v => ∃ (a : Option Addr) (m c : Nat), q = .slice a m c ∧ k ≤ m ∧ m ≤ 8 ∧ Ag v a m c (bek m n) ∧ Below w.heap.size w v) (fun q _ => 8 - (match q with | .slice _ m _ => m | _ => 0))
  case atStart => exact ⟨a, k, c, rfl, Nat.le_refl _, H8.out, HA.out, HB.out⟩
  case round =>
    clear HA
    obtain ⟨a, m, c, rfl, hkm, hm8, hag, hb⟩ := hrel
    have HA := Hid.mk hag
    have HBB := Hid.mk hb
    clear hag hb
    by_cases h8 : m = 8
    · subst h8
      clear hkm
      go_wp2_with fail
      go_ret
      exact ⟨⟨a, c, rfl, HA.out⟩, HBB.out⟩
    · have hmi : (m : Int) < 8 := by omega
      have hpad := bek_pad (HQ.out m hkm)
      have HO : Hid (∀ z ∈ [0] ++ bek m n, 0 ≤ z ∧ z < 256) := Hid.mk (mem_app (by decide) HA.out.b)
      have HP : Hid ([0] ++ bek m n = bek (m + 1) n) := Hid.mk hpad.symm
      have HL : Hid ((bek (m + 1) n).length = m + 1) := Hid.mk (bek_len _ _)
      clear hpad
      go_wp2_with (first | (at_builtin; refine app_any rfl (.tmp 9) (.tmp 10) rfl wr.heap.size _ [0] rfl (OwnB.one wr _) a m c (bek m n) rfl (HA.out.at ((Below.refl _ _).alloc (Nat.le_refl _) _)).i HA.out.nil HA.out.l (by simp; omega) (by simp) ?_; intro v1 w1 o1 hb1; obtain ⟨a1, c1, rfl, hag1⟩ := OwnB.ag o1 HO.out; rw [HP.out, HL.out] at hag1; rw [HP.out, HL.out]; have HG := Hid.mk hag1; have HB1 := Hid.mk hb1; clear o1 hag1 hb1))
      refine ⟨⟨a1, m + 1, c1, rfl, by omega, by omega, HG.out, ?_⟩, by simp; omega⟩
      exact HBB.out.trans ((((Below.refl _ _).alloc (Nat.le_refl _) _).trans HB1.out).mono HBB.out.size)
end Go.Proofs.Yticbfhfmigdhiaa

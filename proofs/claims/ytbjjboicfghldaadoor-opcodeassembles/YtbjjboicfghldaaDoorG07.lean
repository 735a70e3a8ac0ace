/- What the document's Bytes and Key answer. -/
import Derived.Test.YtbjjboicfghldaaDoorG06
namespace Go.Proofs.YtbjjboicfghldaaDoor.Wo
open Go.RowKit
set_option linter.unusedVariables false
theorem OwnB.one (w : World) (z : Int) : OwnB (w.alloc (.cells #[.int .u8 z] 5)) w.heap.size (.slice (some ⟨w.heap.size, 0, none⟩) 1 1) [z] :=
  ⟨rfl, .inr ⟨w.heap.size, 1, #[.int .u8 z], rfl, Nat.le_refl _, heap_alloc_new _ _, Nat.le_refl _, by unfold maxLen; omega, rfl, rfl⟩⟩
theorem OwnB.lo {w : World} {base : Nat} {a : Option Addr} {n c : Nat} {bs : List Int} (h : OwnB w base (.slice a n c) bs) : ∀ g off, a = some ⟨g, off, none⟩ → base ≤ g := by
  intro g off e
  rcases h.2 with ⟨h1, _⟩ | ⟨k, cap, cur, hv, hb, hh, r⟩
  · injection h1 with h1; rw [h1] at e; cases e
  · injection hv with hv1; rw [hv1] at e; cases e; exact hb
def Lo (N : Nat) (a : Option Addr) : Prop := ∀ g off, a = some ⟨g, off, none⟩ → N ≤ g
theorem ag_nil (w : World) : Ag w none 0 0 [] := ⟨.inl ⟨rfl, rfl⟩, fun _ => ⟨rfl, rfl⟩, rfl, fun x hx => by cases hx⟩
set_option maxHeartbeats 1000000 in
theorem rbytes_any (x : Int) (hx0 : 0 ≤ x) (hx1 : x < 18446744073709551616) (w : World) :
    Calls Tryd.prog 54 #[.int .u64 x] w fun e w' => (∃ a c, e = .returned (.slice a (nb x.toNat) c) ∧ Ag w' a (nb x.toNat) c (be x.toNat) ∧ Lo w.heap.size a) ∧ Below w.heap.size w w' := by
  have HN : Hid (nb x.toNat ≤ 8) := Hid.mk (nb8 (by omega))
  obtain ⟨g, hg⟩ : ∃ g, be x.toNat = g := ⟨_, rfl⟩
  have HL : Hid (g.length = nb x.toNat) := Hid.mk (by rw [← hg, be_len])
  rw [hg]
  have HG := Hid.mk hg
  generalize nb x.toNat = k at *
  clear hg
  go_enter Tryd.func54, Tryd.ntmps54
  go_wp2_with fail
  go_loopw [0, 3] (fun p q v => ∃ (y : Int) (a : Option Addr) (m c : Nat) (bs : List Int), p = .int .u64 y ∧ q = .slice a m c ∧ 0 ≤ y ∧ y < 18446744073709551616 ∧ g = be y.toNat ++ bs ∧ Ag v a m c bs ∧ Lo w.heap.size a ∧ Below w.heap.size w v) (fun p _ _ => (intOf p).toNat)
  case atStart => exact ⟨x, none, 0, 0, [], rfl, rfl, hx0, hx1, by rw [List.append_nil]; exact HG.out.symm, ag_nil w, (fun _ _ e => by cases e), Below.refl _ _⟩
  case round =>
    obtain ⟨y, a, m, c, bs, rfl, rfl, hy0, hy1, hgb, hag, hlo, hb⟩ := hrel
    have HW := Hid.mk hlo
    clear hlo
    have hlen := congrArg List.length hgb
    rw [List.length_append, hag.l, HL.out] at hlen
    have hm8 := HN.out
    by_cases hz : y = 0
    · subst hz
      rw [show (0 : Int).toNat = 0 from rfl, be_zero, List.nil_append] at hgb
      rw [show (0 : Int).toNat = 0 from rfl, be_zero] at hlen
      have hmk : k = m := by simpa using hlen
      subst hmk hgb
      have HA := Hid.mk hag
      have HB := Hid.mk hb
      clear hag hb hlen hm8
      go_wp2_with fail
      go_ret
      exact ⟨⟨a, c, rfl, HA.out, HW.out⟩, HB.out⟩
    · have hyp : y > 0 := by omega
      have hbe := be_pos (n := y.toNat) (by omega)
      have e1 : y.toNat / 256 = (y / 256).toNat := by omega
      have e2 : ((y.toNat % 256 : Nat) : Int) = y % 256 := by omega
      rw [e1, e2] at hbe
      rw [hbe, List.append_assoc] at hgb
      have HGB := Hid.mk hgb
      have HA := Hid.mk hag
      have HB := Hid.mk hb
      have hmk : m ≤ 8 := by omega
      clear hag hb hbe e1 e2 hgb hlen hm8
      have HO : Hid (∀ z ∈ [y % 256] ++ bs, 0 ≤ z ∧ z < 256) := Hid.mk (mem_app (fun z hz => by
        have e : z = y % 256 := by simpa using hz
        omega) HA.out.b)
      go_wp2_with (first | (at_builtin; refine app_any rfl (.tmp 9) (.tmp 10) rfl wr.heap.size _ [y % 256] rfl (OwnB.one wr _) a m c bs rfl (HA.out.at ((Below.refl _ _).alloc (Nat.le_refl _) _)).i HA.out.nil HA.out.l (by simp; omega) (by simp) ?_; intro v1 w1 o1 hb1; obtain ⟨a1, c1, rfl, hag1⟩ := OwnB.ag o1 HO.out; have HW1 := Hid.mk (OwnB.lo o1); generalize hgl : ([y % 256] ++ bs).length = m1 at hag1; generalize hgb : [y % 256] ++ bs = bs1 at hag1 HGB; clear o1))
      refine ⟨⟨y / 256, a1, m1, c1, bs1, rfl, rfl, by omega, by omega, HGB.out, hag1, (fun g off e => Nat.le_trans HB.out.size (HW1.out g off e)), ?_⟩, by simp [intOf]; omega⟩
      exact HB.out.trans ((((Below.refl _ _).alloc (Nat.le_refl _) _).trans hb1).mono HB.out.size)
theorem bek_pad {k n : Nat} (h : n < 256 ^ k) : bek (k + 1) n = 0 :: bek k n := by rw [bek_front, Nat.div_eq_of_lt h]; rfl
end Go.Proofs.YtbjjboicfghldaaDoor.Wo

/- What Bytes, Key, Read and Word answer. -/
import Derived.Test.YtmofehloiiopfaaG18
namespace Go.Proofs.Ytmofehloiiopfaa.Wo
open Go.RowKit
set_option linter.unusedVariables false
theorem bytes_any (x : Int) (hx0 : 0 ≤ x) (hx1 : x < 18446744073709551616) (w : World) :
    Calls Try.prog 65 #[.int .u64 x] w fun e w' => e = .returned (.slice (some ⟨w.heap.size, 0, none⟩) (nb x.toNat) (nb x.toNat)) ∧ Row w.heap.size w' (be x.toNat) ∧ Below w.heap.size w w' := by
  have h1 := bytesIn_any x hx0 hx1 w
  have h2 := lowBytes_any x (nb x.toNat) hx0 hx1 (nb8 (by omega)) w
  rw [be_bek]
  generalize nb x.toNat = k at *
  generalize bek k x.toNat = bs at *
  go_enter Try.func65, Try.ntmps65
  go_wp2_with fail
  refine h1.mono ?_
  rintro e w1 ⟨rfl, rfl⟩
  go_wp2_with fail
  refine h2.mono ?_
  rintro e w2 ⟨rfl, hr, hb⟩
  have HR := Hid.mk hr
  have HB := Hid.mk hb
  clear hr hb h1 h2
  go_wp2_with fail
  go_ret
  exact ⟨rfl, HR.out, HB.out⟩
/-- What bytes are read as. -/
def rdP (b : List Int) : Nat × Bool := if 8 < b.length ∨ (0 < b.length ∧ b.getD 0 0 = 0) then (0, false) else (vl b, true)
def wdP (b : List Int) : Nat × Bool := if b.length = 8 then (vl b, true) else (0, false)
set_option maxHeartbeats 400000 in
theorem read_any (a : Option Addr) (n c : Nat) (b : List Int) (w : World) (h : Ag w a n c b) (hn : n ≤ 140737488351232) :
    Calls Try.prog 78 #[.slice a n c] w fun e w' => e = .returned (.tuple #[.int .u64 ((rdP b).1 : Nat), .bool (rdP b).2]) ∧ w' = w := by
  have hl := h.l
  unfold rdP
  by_cases h8 : 8 < b.length
  · rw [if_pos (.inl h8)]
    have h8i : (n : Int) > 8 := by omega
    clear h hl h8
    go_enter Try.func78, Try.ntmps78
    go_wp2_with fail
    go_ret2
    exact ⟨rfl, rfl⟩
  have h8i : ¬ (n : Int) > 8 := by omega
  by_cases h0 : b.length = 0
  · rw [if_neg (by omega)]
    have hv := valueOf_any a n c b w h (by omega)
    generalize vl b = v at *
    have hni : n = 0 := by omega
    subst hni
    clear h hl h8 h0
    go_enter Try.func78, Try.ntmps78
    go_wp2_with fail
    refine hv.mono ?_
    rintro e w2 ⟨rfl, rfl⟩
    go_wp2_with fail
    go_ret2
    exact ⟨rfl, rfl⟩
  obtain ⟨g, off, rfl, hc1, hc2, hc⟩ := ag_head h (by omega)
  unfold maxLen at hc2
  have hc0 := hc 0 (by omega)
  rw [Nat.add_zero] at hc0
  have hni : (n : Int) > 0 := by omega
  have hv := valueOf_any _ n c b w h (by omega)
  by_cases hx : b.getD 0 0 = 0
  · rw [if_pos (.inr ⟨by omega, hx⟩)]
    rw [hx] at hc0
    clear h hl h8 hc hv h0
    go_enter Try.func78, Try.ntmps78
    go_wp2_with fail
    go_ret2
    exact ⟨rfl, rfl⟩
  · rw [if_neg (by rintro (q | q); exact h8 q; exact hx q.2)]
    generalize vl b = v at *
    have hxb : (b.getD 0 0 == 0) = false := by simpa using hx
    generalize b.getD 0 0 = y at *
    clear h hl h8 hc h0
    go_enter Try.func78, Try.ntmps78
    go_wp2_with fail
    refine hv.mono ?_
    rintro e w2 ⟨rfl, rfl⟩
    go_wp2_with fail
    go_ret2
    exact ⟨rfl, rfl⟩
end Go.Proofs.Ytmofehloiiopfaa.Wo
/- What the document's Bytes and Key answer. -/
namespace Go.Proofs.Ytmofehloiiopfaa.Wo
open Go.RowKit
set_option linter.unusedVariables false
theorem OwnB.one (w : World) (z : Int) : OwnB (w.alloc (.cells #[.int .u8 z] 5)) w.heap.size (.slice (some ⟨w.heap.size, 0, none⟩) 1 1) [z] :=
  ⟨rfl, .inr ⟨w.heap.size, 1, #[.int .u8 z], rfl, Nat.le_refl _, heap_alloc_new _ _, Nat.le_refl _, by unfold maxLen; omega, rfl, rfl⟩⟩
theorem OwnB.lo {w : World} {base : Nat} {a : Option Addr} {n c : Nat} {bs : List Int} (h : OwnB w base (.slice a n c) bs) : ∀ g off, a = some ⟨g, off, none⟩ → base ≤ g := by
  intro g off e
  rcases h.2 with ⟨h1, _⟩ | ⟨k, cap, cur, hv, hb, hh, r⟩
  · injection h1 with h1; rw [h1] at e; cases e
  · injection hv with hv1; rw [hv1] at e; cases e; exact hb
def Lo (N : Nat) (a : Option Addr) : Prop := ∀ g off, a = some ⟨g, off, none⟩ → N ≤ g
theorem ag_nil (w : World) : Ag w none 0 0 [] := ⟨.inl ⟨rfl, rfl⟩, fun _ => ⟨rfl, rfl⟩, rfl, fun x hx => by cases hx⟩
set_option maxHeartbeats 1000000 in
theorem rbytes_any (x : Int) (hx0 : 0 ≤ x) (hx1 : x < 18446744073709551616) (w : World) :
    Calls Try.prog 52 #[.int .u64 x] w fun e w' => (∃ a c, e = .returned (.slice a (nb x.toNat) c) ∧ Ag w' a (nb x.toNat) c (be x.toNat) ∧ Lo w.heap.size a) ∧ Below w.heap.size w w' := by
  have HN : Hid (nb x.toNat ≤ 8) := Hid.mk (nb8 (by omega))
  obtain ⟨g, hg⟩ : ∃ g, be x.toNat = g := ⟨_, rfl⟩
  have HL : Hid (g.length = nb x.toNat) := Hid.mk (by rw [← hg, be_len])
  rw [hg]
  have HG := Hid.mk hg
  generalize nb x.toNat = k at *
  clear hg
  go_enter Try.func52, Try.ntmps52
  go_wp2_with fail
  go_loopw [0, 3] (fun p q v => ∃ (y : Int) (a : Option Addr) (m c : Nat) (bs : List Int), p = .int .u64 y ∧ q = .slice a m c ∧ 0 ≤ y ∧ y < 18446744073709551616 ∧ g = be y.toNat ++ bs ∧ Ag v a m c bs ∧ Lo w.heap.size a ∧ Below w.heap.size w v) (fun p _ _ => (intOf p).toNat)
  case atStart => exact ⟨x, none, 0, 0, [], rfl, rfl, hx0, hx1, by rw [List.append_nil]; exact HG.out.symm, ag_nil w, (fun _ _ e => by cases e), Below.refl _ _⟩
  case round =>
    obtain ⟨y, a, m, c, bs, rfl, rfl, hy0, hy1, hgb, hag, hlo, hb⟩ := hrel
    have HW := Hid.mk hlo
    clear hlo
    have hlen := congrArg List.length hgb
    rw [List.length_append, hag.l, HL.out] at hlen
    have hm8 := HN.out
    by_cases hz : y = 0
    · subst hz
      rw [show (0 : Int).toNat = 0 from rfl, be_zero, List.nil_append] at hgb
      rw [show (0 : Int).toNat = 0 from rfl, be_zero] at hlen
      have hmk : k = m := by simpa using hlen
      subst hmk hgb
      have HA := Hid.mk hag
      have HB := Hid.mk hb
      clear hag hb hlen hm8
      go_wp2_with fail
      go_ret
      exact ⟨⟨a, c, rfl, HA.out, HW.out⟩, HB.out⟩
    · have hyp : y > 0 := by omega
      have hbe := be_pos (n := y.toNat) (by omega)
      have e1 : y.toNat / 256 = (y / 256).toNat := by omega
      have e2 : ((y.toNat % 256 : Nat) : Int) = y % 256 := by omega
      rw [e1, e2] at hbe
      rw [hbe, List.append_assoc] at hgb
      have HGB := Hid.mk hgb
      have HA := Hid.mk hag
      have HB := Hid.mk hb
      have hmk : m ≤ 8 := by omega
      clear hag hb hbe e1 e2 hgb hlen hm8
      have HO : Hid (∀ z ∈ [y % 256] ++ bs, 0 ≤ z ∧ z < 256) := Hid.mk (mem_app (fun z hz => by
        have e : z = y % 256 := by simpa using hz
        omega) HA.out.b)
      go_wp2_with (first | (at_builtin; refine app_any rfl (.tmp 9) (.tmp 10) rfl wr.heap.size _ [y % 256] rfl (OwnB.one wr _) a m c bs rfl (HA.out.at ((Below.refl _ _).alloc (Nat.le_refl _) _)).i HA.out.nil HA.out.l (by simp; omega) (by simp) ?_; intro v1 w1 o1 hb1; obtain ⟨a1, c1, rfl, hag1⟩ := OwnB.ag o1 HO.out; have HW1 := Hid.mk (OwnB.lo o1); generalize hgl : ([y % 256] ++ bs).length = m1 at hag1; generalize hgb : [y % 256] ++ bs = bs1 at hag1 HGB; clear o1))
      refine ⟨⟨y / 256, a1, m1, c1, bs1, rfl, rfl, by omega, by omega, HGB.out, hag1, (fun g off e => Nat.le_trans HB.out.size (HW1.out g off e)), ?_⟩, by simp [intOf]; omega⟩
      exact HB.out.trans ((((Below.refl _ _).alloc (Nat.le_refl _) _).trans hb1).mono HB.out.size)
theorem bek_pad {k n : Nat} (h : n < 256 ^ k) : bek (k + 1) n = 0 :: bek k n := by rw [bek_front, Nat.div_eq_of_lt h]; rfl
end Go.Proofs.Ytmofehloiiopfaa.Wo
/- What the document's Read and Word answer. -/
namespace Go.Proofs.Ytmofehloiiopfaa.Wo
open Go.RowKit
set_option linter.unusedVariables false
set_option maxRecDepth 100000
theorem vl8 {b : List Int} (h : ∀ x ∈ b, 0 ≤ x ∧ x < 256) (h8 : b.length ≤ 8) (j : Nat) : vl (b.take j) < 18446744073709551616 := by
  have h1 := vl_lt (b.take j) (fun x hx => h x (List.mem_of_mem_take hx))
  refine Nat.lt_of_lt_of_le h1 (show 256 ^ (b.take j).length ≤ 256 ^ 8 from Nat.pow_le_pow_right (by decide) ?_)
  rw [List.length_take]; omega
end Go.Proofs.Ytmofehloiiopfaa.Wo

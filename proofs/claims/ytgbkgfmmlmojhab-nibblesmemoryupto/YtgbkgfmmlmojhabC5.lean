/- What head and Pack answer. -/
import Derived.Test.YtgbkgfmmlmojhabC4
namespace Go.Proofs.Ytgbkgfmmlmojhab
open Go.RowKit
set_option linter.unusedVariables false
theorem ownB_one (w : World) (z : Int) : OwnB (w.alloc (.cells #[.int .u8 z] 5)) w.heap.size (.slice (some ⟨w.heap.size, 0, none⟩) 1 1) [z] :=
  ⟨rfl, .inr ⟨w.heap.size, 1, #[.int .u8 z], rfl, Nat.le_refl _, heap_alloc_new _ _, Nat.le_refl _, by unfold maxLen; omega, rfl, rfl⟩⟩
theorem ownB_two (w : World) (y z : Int) : OwnB (w.alloc (.cells #[.int .u8 y, .int .u8 z] 5)) w.heap.size (.slice (some ⟨w.heap.size, 0, none⟩) 2 2) [y, z] :=
  ⟨rfl, .inr ⟨w.heap.size, 2, #[.int .u8 y, .int .u8 z], rfl, Nat.le_refl _, heap_alloc_new _ _, Nat.le_refl _, by unfold maxLen; omega, rfl, rfl⟩⟩
theorem or_b1 : bits BinOp.or IntKind.u8 2 1 = 3 := by decide +kernel
theorem or_b0 : bits BinOp.or IntKind.u8 0 1 = 1 := by decide +kernel
set_option maxHeartbeats 400000 in
theorem head_any (n : Nat) (leaf : Bool) (w : World) (hn : n ≤ 140737488355328) :
    Calls Try.prog 15 #[.int .i64 n, .bool leaf] w fun e w' => (∃ v, e = .returned v ∧ OwnB w' w.heap.size v (hdP n leaf)) ∧ Below w.heap.size w w' := by
  have h1 := or_b1
  have h0 := or_b0
  unfold hdP
  by_cases he : n % 2 = 0
  · rw [if_pos he]
    have hei : (n : Int) % 2 = 0 := by omega
    clear he
    cases leaf with
    | true =>
      go_enter Try.func15, Try.ntmps15
      go_wp2_with fail
      go_ret
      exact ⟨⟨_, rfl, ownB_two _ _ _⟩, below_new _ _⟩
    | false =>
      go_enter Try.func15, Try.ntmps15
      go_wp2_with fail
      go_ret
      exact ⟨⟨_, rfl, ownB_two _ _ _⟩, below_new _ _⟩
  · rw [if_neg he]
    have hei : (n : Int) % 2 = 1 := by omega
    clear he
    cases leaf with
    | true =>
      go_enter Try.func15, Try.ntmps15
      go_wp2_with fail
      go_ret
      exact ⟨⟨_, rfl, ownB_one _ _⟩, below_new _ _⟩
    | false =>
      go_enter Try.func15, Try.ntmps15
      go_wp2_with fail
      go_ret
      exact ⟨⟨_, rfl, ownB_one _ _⟩, below_new _ _⟩
set_option maxHeartbeats 1000000 in
theorem pack_any (a : Option Addr) (n c : Nat) (p : List Int) (leaf : Bool) (w : World) (h : Ag w a n c p) (hn : n + 2 ≤ 140737488355328) :
    Calls Try.prog 11 #[.slice a n c, .bool leaf] w fun e w' => (∃ a' m, e = .returned (.tuple #[.slice a' m m, .int .i64 ((packP p leaf).2 : Nat)]) ∧ Ag w' a' m m (packP p leaf).1) ∧ Below w.heap.size w w' := by
  have hl := h.l
  have hhd := head_any n leaf w (by omega)
  have hpk := pack_key (p := p) (leaf := leaf)
  have hlen := hd_len n leaf
  have hfb := full_isB (p := p) (leaf := leaf) h.b
  rw [hl] at hpk hfb
  have hpp : packP p leaf = if rightP p = true then (kk (hdP n leaf ++ p), 0) else ([], 40) := by unfold packP; rw [hl]
  rw [hpp]
  clear hpp
  generalize hdP n leaf = hd at *
  obtain ⟨⟨r1, r2⟩, hr⟩ : ∃ r, (if rightP p = true then (kk (hd ++ p), 0) else (([] : List Int), 40)) = r := ⟨_, rfl⟩
  obtain ⟨⟨k1, k2⟩, hk⟩ : ∃ r, (if rightP p = true then (kk (hd ++ p), true) else (([] : List Int), false)) = r := ⟨_, rfl⟩
  rw [hr]
  rw [hk] at hpk
  simp only
  have HT : Hid (k2 = true → r1 = k1 ∧ r2 = 0) := Hid.mk (fun h => by
    by_cases hq : rightP p = true
    · rw [if_pos hq] at hr hk
      injection hr with e1 e2
      injection hk with e3 e4
      exact ⟨e1.symm.trans e3, e2.symm⟩
    · rw [if_neg hq] at hk
      injection hk with e3 e4
      rw [← e4] at h
      cases h)
  have HF : Hid (k2 = false → r1 = [] ∧ r2 = 40) := Hid.mk (fun h => by
    by_cases hq : rightP p = true
    · rw [if_pos hq] at hk
      injection hk with e3 e4
      rw [← e4] at h
      cases h
    · rw [if_neg hq] at hr
      injection hr with e1 e2
      exact ⟨e1.symm, e2.symm⟩)
  clear hr hk
  have HPK := Hid.mk hpk
  have HFB := Hid.mk hfb
  have HHD := Hid.mk hhd
  have HAG := Hid.mk h
  have HLEN : Hid (hd.length ≤ 2) := Hid.mk (by omega)
  have HL := Hid.mk hl
  clear hpk hfb hhd h hlen hl
  go_enter Try.func11, Try.ntmps11
  go_wp2_with fail
  refine HHD.out.mono ?_
  rintro e w1 ⟨⟨v, rfl, hown⟩, hb1⟩
  have HO := Hid.mk hown
  have HB1 := Hid.mk hb1
  clear hown hb1
  go_wp2_with (first | (at_builtin; refine app_any rfl (.tmp 12) (.tmp 13) rfl w.heap.size _ hd rfl HO.out a n c p rfl (HAG.out.at HB1.out).i HAG.out.nil HAG.out.l (by have := HLEN.out; omega) HB1.out.size ?_; intro v2 w2 o2 hb2; obtain ⟨a2, c2, rfl, hag2⟩ := OwnB.ag o2 HFB.out; have HB2 := Hid.mk (HB1.out.trans hb2); have HA2 := Hid.mk hag2; clear o2 hb2 hag2; generalize hgl : (hd ++ p).length = len2 at HA2 ⊢; have HGL := Hid.mk hgl; clear hgl))
  have hk := key_any a2 len2 c2 (hd ++ p) w2 HA2.out (by have h1 := HGL.out; rw [List.length_append, HL.out] at h1; have := HLEN.out; omega)
  rw [HPK.out] at hk
  simp only at hk
  have HK := Hid.mk hk
  clear hk
  cases k2 with
  | true =>
    obtain ⟨rfl, rfl⟩ := HT.out rfl
    refine HK.out.mono ?_
    rintro e w3 ⟨⟨a3, m3, rfl, hag3⟩, hb3⟩
    have HA3 := Hid.mk hag3
    have HB3 := Hid.mk (HB2.out.trans (hb3.mono HB2.out.size))
    clear hag3 hb3
    go_wp2_with fail
    go_ret2
    exact ⟨⟨a3, m3, rfl, HA3.out⟩, HB3.out⟩
  | false =>
    obtain ⟨rfl, rfl⟩ := HF.out rfl
    refine HK.out.mono ?_
    rintro e w3 ⟨⟨a3, m3, rfl, hag3⟩, hb3⟩
    have HB3 := Hid.mk (HB2.out.trans (hb3.mono HB2.out.size))
    clear hag3 hb3
    go_wp2_with fail
    go_ret2
    exact ⟨⟨none, 0, rfl, ag_nil _⟩, HB3.out⟩
end Go.Proofs.Ytgbkgfmmlmojhab

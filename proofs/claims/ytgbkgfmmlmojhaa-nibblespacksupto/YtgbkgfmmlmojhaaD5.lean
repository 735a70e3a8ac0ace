/- What the document's Pack answers. -/
import Derived.Test.YtgbkgfmmlmojhaaD4
import Derived.Test.YtgbkgfmmlmojhaaC5
namespace Go.Proofs.Ytgbkgfmmlmojhaa
open Go.RowKit
set_option linter.unusedVariables false
theorem hd_of (n : Nat) (leaf : Bool) : hdP n leaf = if n % 2 = 0 then [if leaf then 2 else 0] ++ [0] else [if leaf then 3 else 1] := by
  unfold hdP
  cases leaf <;> rfl
set_option maxHeartbeats 2000000 in
theorem rpack_any (a : Option Addr) (n c : Nat) (p : List Int) (leaf : Bool) (w : World) (h : Ag w a n c p) (hn : n + 2 ≤ 140737488355328) :
    Calls Try.prog 18 #[.slice a n c, .bool leaf] w fun e w' => (∃ a' m c', e = .returned (.tuple #[.slice a' m c', .int .i64 ((packP p leaf).2 : Nat)]) ∧ Ag w' a' m c' (packP p leaf).1) ∧ Below w.heap.size w w' := by
  have hl := h.l
  have hr := rright_any a n c p w h (by omega)
  by_cases hrt : rightP p = true
  case neg =>
    rw [packP_no hrt]
    simp only
    rw [show rightP p = false from by simpa using hrt] at hr
    clear h hl hrt
    go_enter Try.func18, Try.ntmps18
    go_wp2_with fail
    refine hr.mono ?_
    rintro e w1 ⟨rfl, rfl⟩
    clear hr
    go_wp2_with fail
    go_ret2
    exact ⟨⟨none, 0, 0, rfl, ag_nil _⟩, Below.refl _ _⟩
  rw [packP_yes hrt]
  simp only
  rw [hrt] at hr
  have hpk := pack_key (p := p) (leaf := leaf)
  rw [if_pos hrt] at hpk
  have hfb := full_isB (p := p) (leaf := leaf) h.b
  rw [hl] at hpk hfb ⊢
  have hho := hd_of n leaf
  have hhl := hd_len n leaf
  have HHL : Hid ((hdP n leaf).length ≤ 2) := Hid.mk (by omega)
  have HPK := Hid.mk hpk
  have HFB := Hid.mk hfb
  have HAG := Hid.mk h
  have HL := Hid.mk hl
  have HR := Hid.mk hr
  generalize hdP n leaf = hd at *
  clear hpk hfb h hl hr hrt hhl
  by_cases he : n % 2 = 0
  · rw [if_pos he] at hho
    have hei : (n : Int) % 2 = 0 := by omega
    have HHO := Hid.mk hho
    clear hho he
    cases leaf with
    | true =>
      simp only [if_true] at HHO
      go_enter Try.func18, Try.ntmps18
      go_wp2_with fail
      refine HR.out.mono ?_
      rintro e w1 ⟨rfl, rfl⟩
      clear HR
      go_wp2_with (first
        | (at_builtin; refine app_any rfl (.tmp 26) (.tmp 27) rfl w1.heap.size _ [2] rfl (OwnB.alloc (ownB_one w1 _) _) (some ⟨w1.heap.size + 1, 0, none⟩) 1 1 [0] rfl (by have := in0_one (w1.alloc (.cells #[.int .u8 2] 5)) 0; simpa using this) (fun h => by cases h) rfl (by show 1 + 1 ≤ 140737488355328; omega) (by simp; omega) ?_; intro v1 w2 o1 hb1; rw [← HHO.out] at o1; have HO1 := Hid.mk o1; have HB1 := Hid.mk ((((Below.refl w1.heap.size w1).alloc (Nat.le_refl _) _).alloc (by simp) _).trans hb1); clear o1 hb1)
        | (at_builtin; refine app_any rfl (.tmp 29) (.tmp 30) rfl w1.heap.size _ hd rfl HO1.out a n c p rfl (HAG.out.at HB1.out).i HAG.out.nil HAG.out.l (by have := HHL.out; omega) HB1.out.size ?_; intro v2 w3 o2 hb2; obtain ⟨a2, c2, rfl, hag2⟩ := OwnB.ag o2 HFB.out; have HB2 := Hid.mk (HB1.out.trans hb2); have HA2 := Hid.mk hag2; clear o2 hb2 hag2; generalize hgl : (hd ++ p).length = len2 at HA2 ⊢; have HGL := Hid.mk hgl; clear hgl))
      have hk := rkey_any a2 len2 c2 (hd ++ p) _ HA2.out (by have h1 := HGL.out; rw [List.length_append, HL.out] at h1; have := HHL.out; omega)
      rw [HPK.out] at hk
      simp only at hk
      have HK := Hid.mk hk
      clear hk
      refine HK.out.mono ?_
      rintro e w9 ⟨⟨a3, m3, c3, rfl, hag3⟩, hb3⟩
      have HA3 := Hid.mk hag3
      have HB3 := Hid.mk (HB2.out.trans (hb3.mono HB2.out.size))
      clear hag3 hb3
      go_wp2_with fail
      go_ret2
      exact ⟨⟨a3, m3, c3, rfl, HA3.out⟩, HB3.out⟩
    | false =>
      simp only [Bool.false_eq_true, if_false] at HHO
      go_enter Try.func18, Try.ntmps18
      go_wp2_with fail
      refine HR.out.mono ?_
      rintro e w1 ⟨rfl, rfl⟩
      clear HR
      go_wp2_with (first
        | (at_builtin; refine app_any rfl (.tmp 26) (.tmp 27) rfl w1.heap.size _ [0] rfl (OwnB.alloc (ownB_one w1 _) _) (some ⟨w1.heap.size + 1, 0, none⟩) 1 1 [0] rfl (by have := in0_one (w1.alloc (.cells #[.int .u8 0] 5)) 0; simpa using this) (fun h => by cases h) rfl (by show 1 + 1 ≤ 140737488355328; omega) (by simp; omega) ?_; intro v1 w2 o1 hb1; rw [← HHO.out] at o1; have HO1 := Hid.mk o1; have HB1 := Hid.mk ((((Below.refl w1.heap.size w1).alloc (Nat.le_refl _) _).alloc (by simp) _).trans hb1); clear o1 hb1)
        | (at_builtin; refine app_any rfl (.tmp 29) (.tmp 30) rfl w1.heap.size _ hd rfl HO1.out a n c p rfl (HAG.out.at HB1.out).i HAG.out.nil HAG.out.l (by have := HHL.out; omega) HB1.out.size ?_; intro v2 w3 o2 hb2; obtain ⟨a2, c2, rfl, hag2⟩ := OwnB.ag o2 HFB.out; have HB2 := Hid.mk (HB1.out.trans hb2); have HA2 := Hid.mk hag2; clear o2 hb2 hag2; generalize hgl : (hd ++ p).length = len2 at HA2 ⊢; have HGL := Hid.mk hgl; clear hgl))
      have hk := rkey_any a2 len2 c2 (hd ++ p) _ HA2.out (by have h1 := HGL.out; rw [List.length_append, HL.out] at h1; have := HHL.out; omega)
      rw [HPK.out] at hk
      simp only at hk
      have HK := Hid.mk hk
      clear hk
      refine HK.out.mono ?_
      rintro e w9 ⟨⟨a3, m3, c3, rfl, hag3⟩, hb3⟩
      have HA3 := Hid.mk hag3
      have HB3 := Hid.mk (HB2.out.trans (hb3.mono HB2.out.size))
      clear hag3 hb3
      go_wp2_with fail
      go_ret2
      exact ⟨⟨a3, m3, c3, rfl, HA3.out⟩, HB3.out⟩
  · rw [if_neg he] at hho
    have hei : (n : Int) % 2 = 1 := by omega
    have HHO := Hid.mk hho
    clear hho he
    cases leaf with
    | true =>
      simp only [if_true] at HHO
      go_enter Try.func18, Try.ntmps18
      go_wp2_with fail
      refine HR.out.mono ?_
      rintro e w1 ⟨rfl, rfl⟩
      clear HR
      have HO1 : Hid (OwnB (w1.alloc (.cells #[.int .u8 3] 5)) w1.heap.size (.slice (some ⟨w1.heap.size, 0, none⟩) 1 1) hd) := Hid.mk (by rw [HHO.out]; exact ownB_one w1 _)
      have HB1 : Hid (Below w1.heap.size w1 (w1.alloc (.cells #[.int .u8 3] 5))) := Hid.mk (below_new _ _)
      go_wp2_with (first
        | (at_builtin; refine app_any rfl (.tmp 29) (.tmp 30) rfl w1.heap.size _ hd rfl HO1.out a n c p rfl (HAG.out.at HB1.out).i HAG.out.nil HAG.out.l (by have := HHL.out; omega) HB1.out.size ?_; intro v2 w3 o2 hb2; obtain ⟨a2, c2, rfl, hag2⟩ := OwnB.ag o2 HFB.out; have HB2 := Hid.mk (HB1.out.trans hb2); have HA2 := Hid.mk hag2; clear o2 hb2 hag2; generalize hgl : (hd ++ p).length = len2 at HA2 ⊢; have HGL := Hid.mk hgl; clear hgl))
      have hk := rkey_any a2 len2 c2 (hd ++ p) _ HA2.out (by have h1 := HGL.out; rw [List.length_append, HL.out] at h1; have := HHL.out; omega)
      rw [HPK.out] at hk
      simp only at hk
      have HK := Hid.mk hk
      clear hk
      refine HK.out.mono ?_
      rintro e w9 ⟨⟨a3, m3, c3, rfl, hag3⟩, hb3⟩
      have HA3 := Hid.mk hag3
      have HB3 := Hid.mk (HB2.out.trans (hb3.mono HB2.out.size))
      clear hag3 hb3
      go_wp2_with fail
      go_ret2
      exact ⟨⟨a3, m3, c3, rfl, HA3.out⟩, HB3.out⟩
    | false =>
      simp only [Bool.false_eq_true, if_false] at HHO
      go_enter Try.func18, Try.ntmps18
      go_wp2_with fail
      refine HR.out.mono ?_
      rintro e w1 ⟨rfl, rfl⟩
      clear HR
      have HO1 : Hid (OwnB (w1.alloc (.cells #[.int .u8 1] 5)) w1.heap.size (.slice (some ⟨w1.heap.size, 0, none⟩) 1 1) hd) := Hid.mk (by rw [HHO.out]; exact ownB_one w1 _)
      have HB1 : Hid (Below w1.heap.size w1 (w1.alloc (.cells #[.int .u8 1] 5))) := Hid.mk (below_new _ _)
      go_wp2_with (first
        | (at_builtin; refine app_any rfl (.tmp 29) (.tmp 30) rfl w1.heap.size _ hd rfl HO1.out a n c p rfl (HAG.out.at HB1.out).i HAG.out.nil HAG.out.l (by have := HHL.out; omega) HB1.out.size ?_; intro v2 w3 o2 hb2; obtain ⟨a2, c2, rfl, hag2⟩ := OwnB.ag o2 HFB.out; have HB2 := Hid.mk (HB1.out.trans hb2); have HA2 := Hid.mk hag2; clear o2 hb2 hag2; generalize hgl : (hd ++ p).length = len2 at HA2 ⊢; have HGL := Hid.mk hgl; clear hgl))
      have hk := rkey_any a2 len2 c2 (hd ++ p) _ HA2.out (by have h1 := HGL.out; rw [List.length_append, HL.out] at h1; have := HHL.out; omega)
      rw [HPK.out] at hk
      simp only at hk
      have HK := Hid.mk hk
      clear hk
      refine HK.out.mono ?_
      rintro e w9 ⟨⟨a3, m3, c3, rfl, hag3⟩, hb3⟩
      have HA3 := Hid.mk hag3
      have HB3 := Hid.mk (HB2.out.trans (hb3.mono HB2.out.size))
      clear hag3 hb3
      go_wp2_with fail
      go_ret2
      exact ⟨⟨a3, m3, c3, rfl, HA3.out⟩, HB3.out⟩
end Go.Proofs.Ytgbkgfmmlmojhaa

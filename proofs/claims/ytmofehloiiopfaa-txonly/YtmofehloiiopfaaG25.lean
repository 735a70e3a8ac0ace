/- What Key answers, the program's and the document's. -/
import Derived.Test.YtmofehloiiopfaaG19
import Derived.Test.YtmofehloiiopfaaG04
namespace Go.Proofs.Ytmofehloiiopfaa.Wo
open Go.RowKit
set_option linter.unusedVariables false
end Go.Proofs.Ytmofehloiiopfaa.Wo
/- What the words' Word tells, the program's and the document's. -/
namespace Go.Proofs.Ytmofehloiiopfaa.Wo
open Go.RowKit
set_option linter.unusedVariables false
end Go.Proofs.Ytmofehloiiopfaa.Wo
/- What Encode of nest answers, once more: in new memory that may be written. -/
namespace Go.Proofs.Ytmofehloiiopfaa
open Go.RowKit
set_option linter.unusedVariables false
set_option maxRecDepth 100000
/-- What is there of it lies in new memory that may be written. -/
def Fr (base : Nat) (w : World) (a : Option Addr) (n : Nat) : Prop := ∀ g off, a = some ⟨g, off, none⟩ → 0 < n → base ≤ g ∧ ∀ o, w.frozen? ⟨g, o, none⟩ = false
set_option maxHeartbeats 1000000 in
theorem encode_own (t : T) (x : V) (w : World) (hli : Lies w t x) :
    Calls Try.prog 24 #[.agg #[.bool x.l, .slice x.ba x.bn x.bc, .slice x.ia x.m x.ic]] w fun e w' => (∃ a n c, e = .returned (.tuple #[.slice a n c, .int .i64 ((encP t).2 : Nat)]) ∧ Ag w' a n c (encP t).1 ∧ Fr w.heap.size w' a n) ∧ Below w.heap.size w w' := by
  have HLI := Hid.mk hli
  have HBY := Hid.mk (lies_byt t x hli)
  clear hli
  by_cases h0 : (mP t).2 = 0
  · obtain ⟨hm1, hm2, hm3⟩ := encP_ok h0
    have hel := enc_len_le hm2
    have he : encP t = (enc t, 0) := by rw [encP, if_pos h0]
    rw [he]
    have HE := Hid.mk (enc_bounds t HBY.out hm2)
    have HF := Hid.mk hm3
    have HM2 := Hid.mk hm2
    have HM1 := Hid.mk hm1
    have H0 := Hid.mk h0
    obtain ⟨en, hen⟩ : ∃ en, enc t = en := ⟨_, rfl⟩
    rw [hen] at HE HM1 hel ⊢
    have HEN := Hid.mk hen
    obtain ⟨n, hn⟩ : ∃ n, en.length = n := ⟨_, rfl⟩
    rw [hn] at HM1 hel
    have HN := Hid.mk hn
    have hmk := run_make_row' (P := Try.prog) 24 5 (.int .u8 0) 1 Try.underlying24 info5b rfl .i64 .i64 n (by omega) (by omega)
    clear h0 hm1 hm2 hm3 he hen hn
    go_enter Try.func24, Try.ntmps24
    go_wp2_with fail
    refine (measure_any t x _ (lies_mono ((Below.refl _ _).alloc (Nat.le_refl _) _) t x HLI.out)).mono ?_
    rintro e w1 ⟨rfl, hb⟩
    rw [HM1.out, H0.out]
    rw [show ((0 : Nat) : Int) = 0 from rfl]
    have hx : w1.heap[w.heap.size]? = some (.cells #[.bool x.l, .slice x.ba x.bn x.bc, .slice x.ia x.m x.ic] 45) := Below.row hb (heap_alloc_new _ _)
    have y0 := cell_alloc (show w1.cell? ⟨w.heap.size, 0, none⟩ = some (.bool x.l) from by rw [cell_of_row _ _ _ _ _ _ hx]; rfl)
    have y1 := cell_alloc (show w1.cell? ⟨w.heap.size, 1, none⟩ = some (.slice x.ba x.bn x.bc) from by rw [cell_of_row _ _ _ _ _ _ hx]; rfl)
    have y2 := cell_alloc (show w1.cell? ⟨w.heap.size, 2, none⟩ = some (.slice x.ia x.m x.ic) from by rw [cell_of_row _ _ _ _ _ _ hx]; rfl)
    have hb1 : Below w.heap.size w w1 := ((Below.refl w.heap.size w).alloc (Nat.le_refl _) _).trans (hb.mono (by simp))
    have hb2 : Below w.heap.size w (w1.alloc (.cells (madeCells #[.int .u8 0] n) 5)) := hb1.alloc hb1.size _
    have hrow : Row w1.heap.size (w1.alloc (.cells (madeCells #[.int .u8 0] n) 5)) (List.replicate n 0) := by
      unfold Row; rw [heap_alloc_new, made_bytes]
    have hcal := put_any t HF.out x w1.heap.size n n (List.replicate n 0) w _ HLI.out hb2 hb1.size hrow (by simp) (Nat.le_refl _) (by omega) HM2.out (by rw [HEN.out, HN.out]; exact Nat.le_refl _)
    rw [HEN.out, HN.out, Nat.sub_self, List.take_zero, List.nil_append, List.drop_of_length_le (by simp), List.append_nil] at hcal
    have HCAL := Hid.mk hcal
    have HB1 := Hid.mk hb1
    have HB2 := Hid.mk hb2
    clear hcal hrow hx hb hb1 hb2
    go_wp2_with fail
    refine HCAL.out.mono ?_
    rintro e w2 ⟨rfl, hr2, ht2⟩
    have HR2 := Hid.mk hr2
    have HB3 := Hid.mk (Touch.below HB2.out ht2 HB1.out.size HB2.out.size)
    clear hr2 ht2
    go_wp2_with fail
    go_ret2
    refine ⟨⟨_, _, _, rfl, ?_, ?_⟩, HB3.out⟩
    · exact row_ag HR2.out HN.out HE.out (by omega)
    · intro g off e _
      cases e
      exact ⟨HB1.out.size, fun o => frozen_of_row _ _ _ _ _ HR2.out⟩
  · obtain ⟨m1, hm1⟩ : ∃ m1, (mP t).1 = m1 := ⟨_, rfl⟩
    obtain ⟨er, her⟩ : ∃ er, (mP t).2 = er := ⟨_, rfl⟩
    have he : encP t = ([], er) := by rw [encP, if_neg h0, her]
    rw [he]
    rw [her] at h0
    have hee : ((er : Int) != 0) = true := by rw [bne_iff_ne]; omega
    have HM1 := Hid.mk hm1
    have HER := Hid.mk her
    clear hm1 her h0 he
    go_enter Try.func24, Try.ntmps24
    go_wp2_with fail
    refine (measure_any t x _ (lies_mono ((Below.refl _ _).alloc (Nat.le_refl _) _) t x HLI.out)).mono ?_
    rintro e w1 ⟨rfl, hb⟩
    rw [HM1.out, HER.out]
    have HB1 := Hid.mk (((Below.refl w.heap.size w).alloc (Nat.le_refl _) _).trans (hb.mono (by simp)))
    clear hb
    go_wp2_with fail
    go_ret2
    exact ⟨⟨none, 0, 0, rfl, ⟨.inl ⟨rfl, rfl⟩, fun _ => ⟨rfl, rfl⟩, rfl, fun x hx => by cases hx⟩, fun g off e => by cases e⟩, HB1.out⟩
end Go.Proofs.Ytmofehloiiopfaa

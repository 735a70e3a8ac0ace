/- What digest.Of answers: the document's digest, for all bytes; and Write of whatever bytes, Sum of whatever Hash, in the document's words. -/
import Derived.Test.YtmaajddofmahpaaG18
import Derived.Test.YtmaajddofmahpaaG19
import Derived.Test.YtmaajddofmahpaaG06
namespace Go.Proofs.Ytmaajddofmahpaa.Di
set_option maxRecDepth 100000
open Go.RowKit
set_option linter.unusedVariables false
set_option maxHeartbeats 400000 in
theorem write_none (g : Nat) (a : Option Addr) (cap : Nat) (s : S4) (tl : List Int) (n : Nat) (w : World) (hl : tl.length = 32) (hn : n < 9223372036854775808) (hg : w.heap[g]? = some (.cells (HC s tl n) 87)) :
    Calls Try.prog 62 #[.pointer (some ⟨g, 0, none⟩), .slice a 0 cap] w fun e w' => e = .returned (.tuple #[]) ∧ w' = w.setCell ⟨g, 36, none⟩ (.int .i64 n) := by
  obtain ⟨xa, xb, xc, xd⟩ := s
  obtain ⟨c0, c1, c2, c3, c36, cf⟩ := cellsH hg hl
  clear hg
  obtain ⟨f, hff⟩ : ∃ f, n % 32 = f := ⟨_, rfl⟩
  have hmod : (n : Int) % 32 = (f : Int) := by omega
  have hf2 : f < 32 := by omega
  have hf3 : (f : Int) < 32 := by omega
  have hf4 : (f : Int) ≤ 32 := by omega
  clear hff
  by_cases hf : f = 0
  · subst hf
    go_enter Try.func62, Try.ntmps62
    go_wp2_with fail
    refine wp_loop_rounds 1 ?_
    rw [rounds_succ]
    go_wp2_with (first | (refine wpList_copy_nothing rfl _ _ 29 29 rfl 5 Try.underlying29 (by kernel_rfl) _ _ _ _ _ _ rfl rfl (by simp) ?_))
    go_end0
    exact ⟨rfl, rfl⟩
  · have hf0 : (0 : Int) < (f : Int) := by omega
    go_enter Try.func62, Try.ntmps62
    go_wp2_with (first | (refine wpList_copy_nothing rfl _ _ 29 29 rfl 5 Try.underlying29 (by kernel_rfl) _ _ _ _ _ _ rfl rfl (by simp) ?_))
    go_returns
    exact ⟨rfl, rfl⟩
/-- Bytes that are handed to Write: none, or a row of cells that is no part of block g. -/
def In2 (g : Nat) (w : World) (a : Option Addr) (len cap : Nat) (bs : List Int) : Prop :=
  (len = 0 ∧ bs = []) ∨ ∃ gb off, a = some ⟨gb, off, none⟩ ∧ bs.length = len ∧ 0 < len ∧ len ≤ cap ∧ cap ≤ maxLen ∧ gb ≠ g ∧ ∀ j, j < bs.length → w.cell? ⟨gb, off + j, none⟩ = some (.int .u8 (bs.getD j 0))
theorem write_any (g : Nat) (a : Option Addr) (len cap : Nat) (s : S4) (tl : List Int) (n : Nat) (all bs : List Int) (w : World) (hinv : Inv all s tl n) (hin : In2 g w a len cap bs) (hsum : n + len < 9223372036854775808)
    (hb : ∀ x ∈ bs, 0 ≤ x ∧ x < 256) (hg : w.heap[g]? = some (.cells (HC s tl n) 87)) :
    Calls Try.prog 62 #[.pointer (some ⟨g, 0, none⟩), .slice a len cap] w fun e w' => e = .returned (.tuple #[]) ∧ (∃ s' tl', Inv (all ++ bs) s' tl' (n + len) ∧ w'.heap[g]? = some (.cells (HC s' tl' (n + len)) 87)) ∧ Touch g w w' := by
  rcases hin with ⟨rfl, rfl⟩ | ⟨gb, off, rfl, h1, h2, h3, h4, h5, h6⟩
  · refine (write_none g a cap s tl n w hinv.hl (by omega) hg).mono ?_
    rintro e w' ⟨rfl, rfl⟩
    refine ⟨rfl, ⟨s, tl, by rw [List.append_nil]; exact hinv, ?_⟩, Touch.setCell _ _ _ _⟩
    have := heap_setCell_same w g 36 _ 87 (.int .i64 n) hg
    rw [HC_taken_set _ _ _ _ hinv.hl] at this
    exact this
  · obtain ⟨xa, xb, xc, xd⟩ := s
    exact write_some g gb off len cap xa xb xc xd tl n all bs w hinv h1 h2 h3 h4 hsum hb h5 hg h6
/-- The document's digest of some bytes. -/
def dref (bs : List Int) : List Int := dig (stOf (padded bs) ((padded bs).length / 32))
theorem dref_len (bs : List Int) : (dref bs).length = 32 := by simp [dref, dig]
theorem inv_new : Inv [] s0 (List.replicate 32 0) 0 := ⟨rfl, rfl, List.length_replicate, rfl, zero_bounds⟩
theorem sum_ref (g : Nat) (s : S4) (tl : List Int) (n : Nat) (all : List Int) (w : World) (h : Inv all s tl n) (hn : n < 9223372036854775808) (hg : w.heap[g]? = some (.cells (HC s tl n) 87)) :
    Calls Try.prog 63 #[.pointer (some ⟨g, 0, none⟩)] w fun e w' => e = .returned (.agg (B8 (dref all))) ∧ Below w.heap.size w w' := by
  obtain ⟨xa, xb, xc, xd⟩ := s
  have := sum_any g xa xb xc xd tl n h.hl h.hb hn w hg
  rw [fin_ref all _ tl n h (by omega)] at this
  exact this
/-- Bytes in memory, wherever. -/
def In0 (w : World) (a : Option Addr) (len cap : Nat) (bs : List Int) : Prop :=
  (len = 0 ∧ bs = []) ∨ ∃ gb off, a = some ⟨gb, off, none⟩ ∧ bs.length = len ∧ 0 < len ∧ len ≤ cap ∧ cap ≤ maxLen ∧ ∀ j, j < bs.length → w.cell? ⟨gb, off + j, none⟩ = some (.int .u8 (bs.getD j 0))
theorem In0.at {w w' : World} {a : Option Addr} {len cap : Nat} {bs : List Int} {B : Nat} (h : In0 w a len cap bs) (hB : w.heap.size ≤ B) (hb : Below w.heap.size w w') (g : Nat) (hg : B ≤ g) : In2 g w' a len cap bs := by
  rcases h with h | ⟨gb, off, h1, h2, h3, h4, h5, h7⟩
  · exact .inl h
  · have l : gb < w.heap.size := block_lt_of_cell (h7 0 (by omega))
    exact .inr ⟨gb, off, h1, h2, h3, h4, h5, by omega, fun j hj => (hb.cell (p := ⟨gb, off + j, none⟩) l).trans (h7 j hj)⟩
theorem Touch.below {g N : Nat} {w0 w w' : World} (h : Below N w0 w) (t : Touch g w w') (hN : N ≤ g) (hs : N ≤ w.heap.size) : Below N w0 w' :=
  h.trans ⟨t.os, t.tape, t.output, t.size, fun k hk => t.block k (by omega) (by omega)⟩
set_option maxHeartbeats 1000000 in
theorem of_any (a : Option Addr) (len cap : Nat) (bs : List Int) (w : World) (hin : In0 w a len cap bs) (hlen : len = bs.length) (hb : ∀ x ∈ bs, 0 ≤ x ∧ x < 256) (hmax : len < 9223372036854775808) :
    Calls Try.prog 51 #[.slice a len cap] w fun e w' => e = .returned (.agg (B8 (dref bs))) ∧ Below w.heap.size w w' := by
  have HIN := Hid.mk hin
  have HB := Hid.mk hb
  have HL := Hid.mk hlen
  clear hin hb hlen
  go_enter Try.func51, Try.ntmps51
  go_wp2_with fail
  refine (start_any _).mono ?_
  rintro e w1 ⟨⟨xa, xb, xc, xd, rfl, H⟩, hb1⟩
  have HI : Hid ((Try.prog.info? 87).map (·.size) = some (HC ⟨xa, xb, xc, xd⟩ (List.replicate 32 0) 0).size) := by unfold Hid; rw [HC_size]; kernel_rfl
  go_wp2_with (first | refine wpList_store_row rfl 87 _ _ rfl _ (HC ⟨xa, xb, xc, xd⟩ (List.replicate 32 0) 0) rfl (by rw [HC_zero]; rfl) 87 _ (heap_alloc_new w1 _) HI.out (by rw [HC_size]; rfl) (HC_one _ _ _) ?_)
  have hN : w1.heap[w.heap.size]? = some (.cells (B8 (List.replicate 32 0)) 24) := Below.row hb1 (heap_alloc_new w _)
  have l0 := lt_of_get hN
  have hb2 : Below w.heap.size w w1 := ((Below.refl _ _).alloc (Nat.le_refl _) _).trans (hb1.mono (by simp))
  clear hb1
  refine gen_w (p := fun v => Calls _ _ _ v _) (q := fun v => OfH w.heap.size w1.heap.size w v ⟨xa, xb, xc, xd⟩ (List.replicate 32 0) 0) ⟨?_, ?_, ?_, l0⟩ ?_
  · rw [setRow_other _ _ _ _ (by omega), Below.heap_alloc _ _ _ l0]; exact hN
  · exact setRow_heap _ _ _ _ _ _ (heap_alloc_new w1 _)
  · exact Below.setRow (hb2.alloc (by omega) _) (by omega) _
  clear hN hb2
  intro v F
  have hinv : Inv [] ⟨xa, xb, xc, xd⟩ (List.replicate 32 0) 0 := by rw [H.out]; exact inv_new
  refine (write_any _ a len cap _ _ 0 [] bs v hinv (HIN.out.at (Nat.le_refl _) F.bel _ (Nat.le_of_lt l0)) (by omega) HB.out F.hg).mono ?_
  rintro e v2 ⟨rfl, ⟨s2, tl2, hinv2, hg2⟩, t2⟩
  rw [List.nil_append, Nat.zero_add] at hinv2
  rw [Nat.zero_add] at hg2
  have h02 : v2.heap[w.heap.size]? = some (.cells (B8 (List.replicate 32 0)) 24) := (t2.block _ (lt_of_get F.h0) (by omega)).trans F.h0
  have hb3 := Touch.below F.bel t2 (Nat.le_of_lt l0) (Nat.le_of_lt (lt_of_get F.h0))
  clear F t2 HI hinv
  have HV := Hid.mk (And.intro hinv2 hg2)
  have H02 := Hid.mk h02
  clear hinv2 hg2 h02 H
  go_wp2_with fail
  refine (sum_ref _ s2 tl2 len bs v2 HV.out.1 hmax HV.out.2).mono ?_
  rintro e v3 ⟨rfl, hb4⟩
  have h0 := Below.row hb4 H02.out
  have hbel := hb3.trans (hb4.mono (by have := lt_of_get H02.out; omega))
  have HI2 : Hid ((Try.prog.info? 24).map (·.size) = some (B8 (dref bs)).size) := by unfold Hid; rw [B8_size, dref_len]; kernel_rfl
  have hdl := dref_len bs
  have HH := Hid.mk h0
  clear h0 hb4 HV H02
  generalize hds : dref bs = ds at HI2 hdl ⊢
  have HD := Hid.mk hds
  clear hds
  go_wp2_with (first | refine wpList_store_row rfl 24 _ _ rfl _ (B8 ds) rfl rfl 24 _ HH.out HI2.out (by rw [B8_size, B8_size, hdl, List.length_replicate]) (B8_one _) ?_)
  refine bodyPost_ret (results_cell_row Try.results51 _ _ w.heap.size 24 (B8 ds) (0, 0) _ rfl (setRow_heap _ _ _ _ _ _ HH.out) Try.underlying24 rfl HI2.out) rfl ?_
  exact ⟨by rw [HD.out], Below.setRow hbel (Nat.le_refl _) _⟩
end Go.Proofs.Ytmaajddofmahpaa.Di
/- What Encode of nest answers, once more: in new memory that may be written. -/
namespace Go.Proofs.Ytmaajddofmahpaa
open Go.RowKit
set_option linter.unusedVariables false
set_option maxRecDepth 100000
/-- What is there of it lies in new memory that may be written. -/
def Fr (base : Nat) (w : World) (a : Option Addr) (n : Nat) : Prop := ∀ g off, a = some ⟨g, off, none⟩ → 0 < n → base ≤ g ∧ ∀ o, w.frozen? ⟨g, o, none⟩ = false
set_option maxHeartbeats 1000000 in
theorem encode_own (t : T) (x : V) (w : World) (hli : Lies w t x) :
    Calls Try.prog 22 #[.agg #[.bool x.l, .slice x.ba x.bn x.bc, .slice x.ia x.m x.ic]] w fun e w' => (∃ a n c, e = .returned (.tuple #[.slice a n c, .int .i64 ((encP t).2 : Nat)]) ∧ Ag w' a n c (encP t).1 ∧ Fr w.heap.size w' a n) ∧ Below w.heap.size w w' := by
  have HLI := Hid.mk hli
  have HBY := Hid.mk (lies_byt t x hli)
  clear hli
  by_cases h0 : (mP t).2 = 0
  · obtain ⟨hm1, hm2, hm3⟩ := encP_ok h0
    have hel := enc_len_le hm2
    have he : encP t = (enc t, 0) := by rw [encP, if_pos h0]
    rw [he]
    have HE := Hid.mk (enc_bounds t HBY.out hm2)
    have HF := Hid.mk hm3
    have HM2 := Hid.mk hm2
    have HM1 := Hid.mk hm1
    have H0 := Hid.mk h0
    obtain ⟨en, hen⟩ : ∃ en, enc t = en := ⟨_, rfl⟩
    rw [hen] at HE HM1 hel ⊢
    have HEN := Hid.mk hen
    obtain ⟨n, hn⟩ : ∃ n, en.length = n := ⟨_, rfl⟩
    rw [hn] at HM1 hel
    have HN := Hid.mk hn
    have hmk := run_make_row' (P := Try.prog) 29 5 (.int .u8 0) 1 Try.underlying29 info5b rfl .i64 .i64 n (by omega) (by omega)
    clear h0 hm1 hm2 hm3 he hen hn
    go_enter Try.func22, Try.ntmps22
    go_wp2_with fail
    refine (measure_any t x _ (lies_mono ((Below.refl _ _).alloc (Nat.le_refl _) _) t x HLI.out)).mono ?_
    rintro e w1 ⟨rfl, hb⟩
    rw [HM1.out, H0.out]
    rw [show ((0 : Nat) : Int) = 0 from rfl]
    have hx : w1.heap[w.heap.size]? = some (.cells #[.bool x.l, .slice x.ba x.bn x.bc, .slice x.ia x.m x.ic] 46) := Below.row hb (heap_alloc_new _ _)
    have y0 := cell_alloc (show w1.cell? ⟨w.heap.size, 0, none⟩ = some (.bool x.l) from by rw [cell_of_row _ _ _ _ _ _ hx]; rfl)
    have y1 := cell_alloc (show w1.cell? ⟨w.heap.size, 1, none⟩ = some (.slice x.ba x.bn x.bc) from by rw [cell_of_row _ _ _ _ _ _ hx]; rfl)
    have y2 := cell_alloc (show w1.cell? ⟨w.heap.size, 2, none⟩ = some (.slice x.ia x.m x.ic) from by rw [cell_of_row _ _ _ _ _ _ hx]; rfl)
    have hb1 : Below w.heap.size w w1 := ((Below.refl w.heap.size w).alloc (Nat.le_refl _) _).trans (hb.mono (by simp))
    have hb2 : Below w.heap.size w (w1.alloc (.cells (madeCells #[.int .u8 0] n) 5)) := hb1.alloc hb1.size _
    have hrow : Row w1.heap.size (w1.alloc (.cells (madeCells #[.int .u8 0] n) 5)) (List.replicate n 0) := by
      unfold Row; rw [heap_alloc_new, made_bytes]
    have hcal := put_any t HF.out x w1.heap.size n n (List.replicate n 0) w _ HLI.out hb2 hb1.size hrow (by simp) (Nat.le_refl _) (by omega) HM2.out (by rw [HEN.out, HN.out]; exact Nat.le_refl _)
    rw [HEN.out, HN.out, Nat.sub_self, List.take_zero, List.nil_append, List.drop_of_length_le (by simp), List.append_nil] at hcal
    have HCAL := Hid.mk hcal
    have HB1 := Hid.mk hb1
    have HB2 := Hid.mk hb2
    clear hcal hrow hx hb hb1 hb2
    go_wp2_with fail
    refine HCAL.out.mono ?_
    rintro e w2 ⟨rfl, hr2, ht2⟩
    have HR2 := Hid.mk hr2
    have HB3 := Hid.mk (Touch.below HB2.out ht2 HB1.out.size HB2.out.size)
    clear hr2 ht2
    go_wp2_with fail
    go_ret2
    refine ⟨⟨_, _, _, rfl, ?_, ?_⟩, HB3.out⟩
    · exact row_ag HR2.out HN.out HE.out (by omega)
    · intro g off e _
      cases e
      exact ⟨HB1.out.size, fun o => frozen_of_row _ _ _ _ _ HR2.out⟩
  · obtain ⟨m1, hm1⟩ : ∃ m1, (mP t).1 = m1 := ⟨_, rfl⟩
    obtain ⟨er, her⟩ : ∃ er, (mP t).2 = er := ⟨_, rfl⟩
    have he : encP t = ([], er) := by rw [encP, if_neg h0, her]
    rw [he]
    rw [her] at h0
    have hee : ((er : Int) != 0) = true := by rw [bne_iff_ne]; omega
    have HM1 := Hid.mk hm1
    have HER := Hid.mk her
    clear hm1 her h0 he
    go_enter Try.func22, Try.ntmps22
    go_wp2_with fail
    refine (measure_any t x _ (lies_mono ((Below.refl _ _).alloc (Nat.le_refl _) _) t x HLI.out)).mono ?_
    rintro e w1 ⟨rfl, hb⟩
    rw [HM1.out, HER.out]
    have HB1 := Hid.mk (((Below.refl w.heap.size w).alloc (Nat.le_refl _) _).trans (hb.mono (by simp)))
    clear hb
    go_wp2_with fail
    go_ret2
    exact ⟨⟨none, 0, 0, rfl, ⟨.inl ⟨rfl, rfl⟩, fun _ => ⟨rfl, rfl⟩, rfl, fun x hx => by cases hx⟩, fun g off e => by cases e⟩, HB1.out⟩
end Go.Proofs.Ytmaajddofmahpaa

/- What Key answers, the program's and the document's. -/
import Derived.Test.YtmofehloiiopfaaG19
import Derived.Test.YtmofehloiiopfaaG04
namespace Go.Proofs.Ytmofehloiiopfaa.Wo
open Go.RowKit
set_option linter.unusedVariables false
theorem key_any (x : Int) (hx0 : 0 ≤ x) (hx1 : x < 18446744073709551616) (w : World) :
    Calls Try.prog 33 #[.int .u64 x] w fun e w' => e = .returned (.slice (some ⟨w.heap.size, 0, none⟩) 8 8) ∧ Row w.heap.size w' (bek 8 x.toNat) ∧ Below w.heap.size w w' := by
  have h2 := lowBytes_any x 8 hx0 hx1 (by omega) w
  rw [show ((8 : Nat) : Int) = 8 from rfl] at h2
  generalize bek 8 x.toNat = bs at *
  go_enter Try.func33, Try.ntmps33
  go_wp2_with fail
  refine h2.mono ?_
  rintro e w2 ⟨rfl, hr, hb⟩
  have HR := Hid.mk hr
  have HB := Hid.mk hb
  clear hr hb h2
  go_wp2_with fail
  go_ret
  exact ⟨rfl, HR.out, HB.out⟩
set_option maxHeartbeats 1000000 in
theorem rkey_any (x : Int) (hx0 : 0 ≤ x) (hx1 : x < 18446744073709551616) (w : World) :
    Calls Try.prog 36 #[.int .u64 x] w fun e w' => (∃ a c, e = .returned (.slice a 8 c) ∧ Ag w' a 8 c (bek 8 x.toNat) ∧ Lo w.heap.size a) ∧ Below w.heap.size w w' := by
  have H1 := Hid.mk (rbytes_any x hx0 hx1 w)
  have H8 : Hid (nb x.toNat ≤ 8) := Hid.mk (nb8 (by omega))
  have HE := Hid.mk (be_bek x.toNat)
  have HQ : Hid (∀ m, nb x.toNat ≤ m → x.toNat < 256 ^ m) := Hid.mk fun m => (nb_le_iff _ _).1
  generalize x.toNat = n at *
  generalize nb n = k at *
  go_enter Try.func36, Try.ntmps36
  go_wp2_with fail
  refine H1.out.mono ?_
  rintro e w1 ⟨⟨a, c, rfl, hag, hlo⟩, hb⟩
  rw [HE.out] at hag
  have HA := Hid.mk hag
  have HB := Hid.mk hb
  have HW := Hid.mk hlo
  clear hag hb hlo
  go_wp2_with fail
  go_loopw [3] (fun q v => ∃ (a : Option Addr) (m c : Nat), q = .slice a m c ∧ k ≤ m ∧ m ≤ 8 ∧ Ag v a m c (bek m n) ∧ Lo w.heap.size a ∧ Below w.heap.size w v) (fun q _ => 8 - (match q with | .slice _ m _ => m | _ => 0))
  case atStart => exact ⟨a, k, c, rfl, Nat.le_refl _, H8.out, HA.out, HW.out, HB.out⟩
  case round =>
    clear HA HW
    obtain ⟨a, m, c, rfl, hkm, hm8, hag, hlo, hb⟩ := hrel
    have HW := Hid.mk hlo
    clear hlo
    have HA := Hid.mk hag
    have HBB := Hid.mk hb
    clear hag hb
    by_cases h8 : m = 8
    · subst h8
      clear hkm
      go_wp2_with fail
      go_ret
      exact ⟨⟨a, c, rfl, HA.out, HW.out⟩, HBB.out⟩
    · have hmi : (m : Int) < 8 := by omega
      have hpad := bek_pad (HQ.out m hkm)
      have HO : Hid (∀ z ∈ [0] ++ bek m n, 0 ≤ z ∧ z < 256) := Hid.mk (mem_app (by decide) HA.out.b)
      have HP : Hid ([0] ++ bek m n = bek (m + 1) n) := Hid.mk hpad.symm
      have HL : Hid ((bek (m + 1) n).length = m + 1) := Hid.mk (bek_len _ _)
      clear hpad
      go_wp2_with (first | (at_builtin; refine app_any rfl (.tmp 9) (.tmp 10) rfl wr.heap.size _ [0] rfl (OwnB.one wr _) a m c (bek m n) rfl (HA.out.at ((Below.refl _ _).alloc (Nat.le_refl _) _)).i HA.out.nil HA.out.l (by simp; omega) (by simp) ?_; intro v1 w1 o1 hb1; obtain ⟨a1, c1, rfl, hag1⟩ := OwnB.ag o1 HO.out; have HW1 := Hid.mk (OwnB.lo o1); rw [HP.out, HL.out] at hag1; rw [HP.out, HL.out]; have HG := Hid.mk hag1; have HB1 := Hid.mk hb1; clear o1 hag1 hb1))
      refine ⟨⟨a1, m + 1, c1, rfl, by omega, by omega, HG.out, (fun g off e => Nat.le_trans HBB.out.size (HW1.out g off e)), ?_⟩, by simp; omega⟩
      exact HBB.out.trans ((((Below.refl _ _).alloc (Nat.le_refl _) _).trans HB1.out).mono HBB.out.size)
end Go.Proofs.Ytmofehloiiopfaa.Wo
/- What the words' Word tells, the program's and the document's. -/
namespace Go.Proofs.Ytmofehloiiopfaa.Wo
open Go.RowKit
set_option linter.unusedVariables false
theorem word_any (a : Option Addr) (n c : Nat) (b : List Int) (w : World) (h : Ag w a n c b) (hn : n ≤ 140737488351232) :
    Calls Try.prog 35 #[.slice a n c] w fun e w' => e = .returned (.tuple #[.int .u64 ((wdP b).1 : Nat), .bool (wdP b).2]) ∧ w' = w := by
  have hl := h.l
  unfold wdP
  by_cases h8 : b.length = 8
  · rw [if_pos h8]
    have h8i : n = 8 := by omega
    subst h8i
    have hv := valueOf_any a 8 c b w h (by omega)
    generalize vl b = v at *
    clear h hl h8
    go_enter Try.func35, Try.ntmps35
    go_wp2_with fail
    refine hv.mono ?_
    rintro e w2 ⟨rfl, rfl⟩
    go_wp2_with fail
    go_ret2
    exact ⟨rfl, rfl⟩
  · rw [if_neg h8]
    have h8i : ((n : Int) != 8) = true := by rw [bne_iff_ne]; omega
    clear h hl h8
    go_enter Try.func35, Try.ntmps35
    go_wp2_with fail
    go_ret2
    exact ⟨rfl, rfl⟩
set_option maxHeartbeats 1000000 in
theorem rword_any (a : Option Addr) (n c : Nat) (b : List Int) (w : World) (h : Ag w a n c b) (hn : n ≤ 140737488351232) :
    Calls Try.prog 38 #[.slice a n c] w fun e w' => e = .returned (.tuple #[.int .u64 ((wdP b).1 : Nat), .bool (wdP b).2]) ∧ w' = w := by
  have hl := h.l
  unfold wdP
  by_cases h8 : b.length = 8
  · rw [if_pos h8]
    have h8i : n = 8 := by omega
    subst h8i
    have HL := Hid.mk h8
    have HB := Hid.mk h.b
    obtain ⟨g, off, rfl, hnc, hcm, hcs⟩ := ag_head h (by omega)
    unfold maxLen at hcm
    have HC := Hid.mk hcs
    clear h hl h8 hcs
    go_enter Try.func38, Try.ntmps38
    go_wp2_with fail
    go_loopw [4, 5] (fun q i v => ∃ j : Nat, j ≤ 8 ∧ i = .int .i64 j ∧ q = .int .u64 (vl (b.take j) : Nat) ∧ v = w) (fun _ i _ => 8 - (intOf i).toNat)
    case atStart => exact ⟨0, by omega, rfl, rfl, rfl⟩
    case round =>
      obtain ⟨j, hj, rfl, rfl, rfl⟩ := hrel
      by_cases hlt : j < 8
      · have hcell := HC.out j hlt
        have hb2 := HB.out
        have hl := HL.out
        have hvs := vl_take (s := b) (j := j) (by omega)
        have hx := hb2 (b.getD j 0) (by rw [List.getD, List.getElem?_eq_getElem (by omega)]; exact List.getElem_mem _)
        have hv1 := vl8 hb2 (by omega) (j + 1)
        obtain ⟨q, hqq⟩ : ∃ q : Int, ((vl (b.take j) : Nat) : Int) = q := ⟨_, rfl⟩
        obtain ⟨x, hxx⟩ : ∃ x, b.getD j 0 = x := ⟨_, rfl⟩
        rw [hxx] at hcell hx hvs
        obtain ⟨hx0, hx1⟩ := hx
        have hq0 : 0 ≤ q := by omega
        have hq1 : q * 256 + x < 18446744073709551616 := by omega
        have HV : Hid (((vl (b.take (j + 1)) : Nat) : Int) = q * 256 + x) := Hid.mk (by omega)
        rw [hqq]
        have hji : (j : Int) < 8 := by omega
        clear hvs hb2 hl hv1 hqq hxx
        go_wp2_with fail
        exact ⟨⟨j + 1, by omega, by simp, by rw [HV.out], trivial⟩, by simp [intOf]; omega⟩
      · have hji : ¬ (j : Int) < 8 := by omega
        have hl := HL.out
        have e : b.take j = b := List.take_of_length_le (by omega)
        rw [e]
        clear hl e
        go_wp2_with fail
        go_ret2
        exact ⟨rfl, rfl⟩
  · rw [if_neg h8]
    have h8i : ((n : Int) != 8) = true := by rw [bne_iff_ne]; omega
    clear h hl h8
    go_enter Try.func38, Try.ntmps38
    go_wp2_with fail
    go_ret2
    exact ⟨rfl, rfl⟩
end Go.Proofs.Ytmofehloiiopfaa.Wo
/- What Encode of nest answers, once more: in new memory that may be written. -/
namespace Go.Proofs.Ytmofehloiiopfaa
open Go.RowKit
set_option linter.unusedVariables false
set_option maxRecDepth 100000
/-- What is there of it lies in new memory that may be written. -/
def Fr (base : Nat) (w : World) (a : Option Addr) (n : Nat) : Prop := ∀ g off, a = some ⟨g, off, none⟩ → 0 < n → base ≤ g ∧ ∀ o, w.frozen? ⟨g, o, none⟩ = false
set_option maxHeartbeats 1000000 in
theorem encode_own (t : T) (x : V) (w : World) (hli : Lies w t x) :
    Calls Try.prog 24 #[.agg #[.bool x.l, .slice x.ba x.bn x.bc, .slice x.ia x.m x.ic]] w fun e w' => (∃ a n c, e = .returned (.tuple #[.slice a n c, .int .i64 ((encP t).2 : Nat)]) ∧ Ag w' a n c (encP t).1 ∧ Fr w.heap.size w' a n) ∧ Below w.heap.size w w' := by
  have HLI := Hid.mk hli
  have HBY := Hid.mk (lies_byt t x hli)
  clear hli
  by_cases h0 : (mP t).2 = 0
  · obtain ⟨hm1, hm2, hm3⟩ := encP_ok h0
    have hel := enc_len_le hm2
    have he : encP t = (enc t, 0) := by rw [encP, if_pos h0]
    rw [he]
    have HE := Hid.mk (enc_bounds t HBY.out hm2)
    have HF := Hid.mk hm3
    have HM2 := Hid.mk hm2
    have HM1 := Hid.mk hm1
    have H0 := Hid.mk h0
    obtain ⟨en, hen⟩ : ∃ en, enc t = en := ⟨_, rfl⟩
    rw [hen] at HE HM1 hel ⊢
    have HEN := Hid.mk hen
    obtain ⟨n, hn⟩ : ∃ n, en.length = n := ⟨_, rfl⟩
    rw [hn] at HM1 hel
    have HN := Hid.mk hn
    have hmk := run_make_row' (P := Try.prog) 24 5 (.int .u8 0) 1 Try.underlying24 info5b rfl .i64 .i64 n (by omega) (by omega)
    clear h0 hm1 hm2 hm3 he hen hn
    go_enter Try.func24, Try.ntmps24
    go_wp2_with fail
    refine (measure_any t x _ (lies_mono ((Below.refl _ _).alloc (Nat.le_refl _) _) t x HLI.out)).mono ?_
    rintro e w1 ⟨rfl, hb⟩
    rw [HM1.out, H0.out]
    rw [show ((0 : Nat) : Int) = 0 from rfl]
    have hx : w1.heap[w.heap.size]? = some (.cells #[.bool x.l, .slice x.ba x.bn x.bc, .slice x.ia x.m x.ic] 45) := Below.row hb (heap_alloc_new _ _)
    have y0 := cell_alloc (show w1.cell? ⟨w.heap.size, 0, none⟩ = some (.bool x.l) from by rw [cell_of_row _ _ _ _ _ _ hx]; rfl)
    have y1 := cell_alloc (show w1.cell? ⟨w.heap.size, 1, none⟩ = some (.slice x.ba x.bn x.bc) from by rw [cell_of_row _ _ _ _ _ _ hx]; rfl)
    have y2 := cell_alloc (show w1.cell? ⟨w.heap.size, 2, none⟩ = some (.slice x.ia x.m x.ic) from by rw [cell_of_row _ _ _ _ _ _ hx]; rfl)
    have hb1 : Below w.heap.size w w1 := ((Below.refl w.heap.size w).alloc (Nat.le_refl _) _).trans (hb.mono (by simp))
    have hb2 : Below w.heap.size w (w1.alloc (.cells (madeCells #[.int .u8 0] n) 5)) := hb1.alloc hb1.size _
    have hrow : Row w1.heap.size (w1.alloc (.cells (madeCells #[.int .u8 0] n) 5)) (List.replicate n 0) := by
      unfold Row; rw [heap_alloc_new, made_bytes]
    have hcal := put_any t HF.out x w1.heap.size n n (List.replicate n 0) w _ HLI.out hb2 hb1.size hrow (by simp) (Nat.le_refl _) (by omega) HM2.out (by rw [HEN.out, HN.out]; exact Nat.le_refl _)
    rw [HEN.out, HN.out, Nat.sub_self, List.take_zero, List.nil_append, List.drop_of_length_le (by simp), List.append_nil] at hcal
    have HCAL := Hid.mk hcal
    have HB1 := Hid.mk hb1
    have HB2 := Hid.mk hb2
    clear hcal hrow hx hb hb1 hb2
    go_wp2_with fail
    refine HCAL.out.mono ?_
    rintro e w2 ⟨rfl, hr2, ht2⟩
    have HR2 := Hid.mk hr2
    have HB3 := Hid.mk (Touch.below HB2.out ht2 HB1.out.size HB2.out.size)
    clear hr2 ht2
    go_wp2_with fail
    go_ret2
    refine ⟨⟨_, _, _, rfl, ?_, ?_⟩, HB3.out⟩
    · exact row_ag HR2.out HN.out HE.out (by omega)
    · intro g off e _
      cases e
      exact ⟨HB1.out.size, fun o => frozen_of_row _ _ _ _ _ HR2.out⟩
  · obtain ⟨m1, hm1⟩ : ∃ m1, (mP t).1 = m1 := ⟨_, rfl⟩
    obtain ⟨er, her⟩ : ∃ er, (mP t).2 = er := ⟨_, rfl⟩
    have he : encP t = ([], er) := by rw [encP, if_neg h0, her]
    rw [he]
    rw [her] at h0
    have hee : ((er : Int) != 0) = true := by rw [bne_iff_ne]; omega
    have HM1 := Hid.mk hm1
    have HER := Hid.mk her
    clear hm1 her h0 he
    go_enter Try.func24, Try.ntmps24
    go_wp2_with fail
    refine (measure_any t x _ (lies_mono ((Below.refl _ _).alloc (Nat.le_refl _) _) t x HLI.out)).mono ?_
    rintro e w1 ⟨rfl, hb⟩
    rw [HM1.out, HER.out]
    have HB1 := Hid.mk (((Below.refl w.heap.size w).alloc (Nat.le_refl _) _).trans (hb.mono (by simp)))
    clear hb
    go_wp2_with fail
    go_ret2
    exact ⟨⟨none, 0, 0, rfl, ⟨.inl ⟨rfl, rfl⟩, fun _ => ⟨rfl, rfl⟩, rfl, fun x hx => by cases hx⟩, fun g off e => by cases e⟩, HB1.out⟩
end Go.Proofs.Ytmofehloiiopfaa

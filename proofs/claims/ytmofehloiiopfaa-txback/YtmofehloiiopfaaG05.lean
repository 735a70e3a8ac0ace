/- What lengthIn answers. -/
import Derived.Test.YtmofehloiiopfaaG01
namespace Go.Proofs.Ytmofehloiiopfaa
open Go.RowKit
set_option linter.unusedVariables false
set_option maxHeartbeats 1000000 in
theorem lengthIn_any (a : Option Addr) (n c k : Nat) (b : List Int) (w : World) (h : Ag w a n c b) (hk : 1 ≤ k) (hk8 : k ≤ 8) (hn : n ≤ 4611686018427387904) :
    Calls Try.prog 83 #[.slice a n c, .int .i64 k] w fun e w' => e = .returned (.tuple #[.int .i64 ((lenIn b k).1 : Nat), .int .i64 ((lenIn b k).2 : Nat)]) ∧ Below w.heap.size w w' := by
  have hl := h.l
  obtain ⟨r, hr⟩ : ∃ r, lenIn b k = r := ⟨_, rfl⟩
  rw [hr]
  unfold lenIn at hr
  by_cases h3 : 3 < k
  · rw [if_pos h3] at hr
    subst hr
    have h3i : (3 : Int) < k := by omega
    clear h
    go_enter Try.func83, Try.ntmps83
    go_wp2_with fail
    go_ret2
    exact ⟨rfl, Below.refl _ _⟩
  rw [if_neg h3] at hr
  have h3i : ¬ (3 : Int) < k := by omega
  by_cases h4 : b.length < k
  · rw [if_pos h4] at hr
    subst hr
    have h4i : (n : Int) < k := by omega
    clear h
    go_enter Try.func83, Try.ntmps83
    go_wp2_with fail
    go_ret2
    exact ⟨rfl, Below.refl _ _⟩
  rw [if_neg h4] at hr
  have h4i : ¬ (n : Int) < k := by omega
  obtain ⟨g, off, rfl, hc1, hc2, hc⟩ := ag_head h (by omega)
  unfold maxLen at hc2
  have HR := Hid.mk hr
  have HC := Hid.mk hc
  have HB := Hid.mk h.b
  have HL := Hid.mk hl
  have hc0 := hc 0 (by omega)
  rw [Nat.add_zero] at hc0
  have hkc : k ≤ c := by omega
  clear h hr hc hl h4
  go_enter Try.func83, Try.ntmps83
  go_wp2_with fail
  go_loopw [6, 19] (fun q i v => ∃ j : Nat, j ≤ k ∧ i = .int .i64 j ∧ q = .int .i64 (val (b.take j) : Nat) ∧ v = w) (fun _ i _ => k - (intOf i).toNat)
  case atStart => exact ⟨0, by omega, rfl, rfl, rfl⟩
  case round =>
    obtain ⟨j, hj, rfl, rfl, rfl⟩ := hrel
    by_cases hlt : j < k
    · have hcell := HC.out j (by omega)
      have hb2 := HB.out
      have hl := HL.out
      obtain ⟨v1, v2⟩ := val_take hb2 (j := j) (by omega) (by omega)
      have v3 := val_take hb2 (j := j + 1) (by omega) (by omega)
      have hx := hb2 (b.getD j 0) (by rw [List.getD, List.getElem?_eq_getElem (by omega)]; exact List.getElem_mem _)
      have hvs := val_succ (b := b) (j := j) (by omega)
      obtain ⟨q, hq⟩ : ∃ q, val (b.take j) = q := ⟨_, rfl⟩
      obtain ⟨x, hxx⟩ : ∃ x, b.getD j 0 = x := ⟨_, rfl⟩
      rw [hq] at v1 hvs ⊢
      rw [hxx] at hcell hx hvs
      obtain ⟨hx0, hx1⟩ := hx
      rw [hvs] at v3
      have hq2 : q < 65536 := by omega
      have HV := Hid.mk hvs
      have hji : (j : Int) < k := by omega
      have hor : bits BinOp.or IntKind.i64 ((q : Int) * 256) x = (q : Int) * 256 + x := by
        refine bits_join .i64 40 (by decide) (fun n a b => by rw [IntKind.wrap_i64]; omega) 8 _ _ (by omega) (by omega) (by omega) hx0 (by omega) (by omega)
      clear hvs hb2 hl v1 v2 v3 hq hxx
      go_wp2_with fail
      refine ⟨⟨j + 1, by omega, by simp, ?_, trivial⟩, ?_⟩
      · rw [HV.out]
        simp
        omega
      · simp [intOf]; omega
    · have hjk : j = k := by omega
      subst hjk
      have hji : ¬ (j : Int) < j := by omega
      obtain ⟨v1, v2⟩ := val_take HB.out (j := j) (by have := HL.out; omega) (by omega)
      have hh : b.headD 0 = b.getD 0 0 := by cases b <;> rfl
      have hr := HR.out
      rw [hh] at hr
      have hx := HB.out (b.getD 0 0) (by rw [List.getD, List.getElem?_eq_getElem (by have := HL.out; omega)]; exact List.getElem_mem _)
      obtain ⟨q, hq⟩ : ∃ q, val (b.take j) = q := ⟨_, rfl⟩
      obtain ⟨x, hxx⟩ : ∃ x, b.getD 0 0 = x := ⟨_, rfl⟩
      rw [hq] at v1 hr ⊢
      rw [hxx] at hc0 hr hx
      clear hq hxx hh
      by_cases hx0 : x = 0
      · subst hx0
        rw [if_pos (.inl rfl)] at hr
        subst hr
        clear hx
        go_wp2_with fail
        go_ret2
        exact ⟨rfl, Below.refl _ _⟩
      · have hxb : (x == 0) = false := by simp [hx0]
        by_cases hq5 : q ≤ 55
        · rw [if_pos (.inr hq5)] at hr
          subst hr
          have hqi : (q : Int) ≤ 55 := by omega
          go_wp2_with fail
          go_ret2
          exact ⟨rfl, Below.refl _ _⟩
        · rw [if_neg (by intro h; rcases h with h | h; exact hx0 h; exact hq5 h)] at hr
          subst hr
          have hqi : ¬ (q : Int) ≤ 55 := by omega
          go_wp2_with fail
          go_ret2
          exact ⟨rfl, Below.refl _ _⟩
end Go.Proofs.Ytmofehloiiopfaa
/- What bodyAt answers. -/
namespace Go.Proofs.Ytmofehloiiopfaa
open Go.RowKit
set_option linter.unusedVariables false
/-- What bodyAt tells. -/
def HR.f : HR → Nat | .bad _ => 0 | .ok f _ => f
def HR.t : HR → Nat | .bad _ => 0 | .ok _ t => t
def HR.e : HR → Nat | .bad e => e | .ok _ _ => 0
theorem ag_drop {w : World} {g off n c : Nat} {b : List Int} (h : Ag w (some ⟨g, off, none⟩) n c b) {k : Nat} (hk : k ≤ n) : Ag w (if c = k then some ⟨g, off, none⟩ else some ⟨g, off + k, none⟩) (n - k) (c - k) (b.drop k) := by
  have hl := h.l
  refine ⟨?_, ?_, by rw [List.length_drop, hl], fun x hx => h.b x (List.mem_of_mem_drop hx)⟩
  · by_cases h0 : n - k = 0
    · exact .inl ⟨h0, List.drop_of_length_le (by omega)⟩
    · rcases h.i with ⟨h1, _⟩ | ⟨g', off', h1, h2, h3, h4, h5, h6⟩
      · omega
      · cases h1
        refine .inr ⟨g, off + k, if_neg (by omega), by rw [List.length_drop, hl], by omega, by omega, by omega, fun j hj => ?_⟩
        rw [List.length_drop] at hj
        have := h6 (k + j) (by omega)
        rw [Nat.add_assoc, this]
        simp [List.getD]
  · intro hh
    split at hh <;> cases hh
set_option maxHeartbeats 1000000 in
theorem bodyAt_long192 (g off n c d k : Nat) (x : Int) (r : List Int) (w : World) (hcell : w.cell? ⟨g, off, none⟩ = some (.int .u8 x)) (hx0 : 0 ≤ x) (hx1 : x < 256) (hbig : 192 ≤ x) (hd8 : ((d : Int) == 8) = false) (h128 : ¬ x < 128) (hc1 : n ≤ c) (hc2 : c ≤ 2 ^ 63 - 1) (hn : n ≤ 4611686018427387904)
    (hl : r.length + 1 = n) (hdr : Ag w (if c = 1 then some ⟨g, off, none⟩ else some ⟨g, off + 1, none⟩) (n - 1) (c - 1) r) (h5 : 55 < x - 192) (hk : x - 192 - 55 = (k : Int)) (R : HR)
    (hR : (if (lenIn r k).2 ≠ 0 then HR.bad (lenIn r k).2 else if r.length + 1 - (1 + k) < (lenIn r k).1 then HR.bad 22 else HR.ok (1 + k) (1 + k + (lenIn r k).1)) = R) :
    Calls Try.prog 76 #[.slice (some ⟨g, off, none⟩) n c, .int .i64 d] w fun e w' => e = .returned (.tuple #[.int .i64 (R.f : Nat), .int .i64 (R.t : Nat), .int .i64 (R.e : Nat)]) ∧ Below w.heap.size w w' := by
  have hn0 : ((n : Int) == 0) = false := by simp; omega
  have hn1 : 0 < n := by omega
  have hn2 : (0 : Int) < n := by omega
  have hk1 : 1 ≤ k := by omega
  have hk8 : k ≤ 8 := by omega
  have hL1 := @lenIn_ok r k
  have hcal := lengthIn_any _ (n - 1) (c - 1) k r w hdr hk1 hk8 (by omega)
  obtain ⟨L, hL⟩ : ∃ L, lenIn r k = L := ⟨_, rfl⟩
  obtain ⟨L1, L2⟩ := L
  rw [hL] at hR hL1 hcal
  simp only at hR hL1 hcal
  have hvb : L2 = 0 → L1 < 16777216 := fun h0 => by
    obtain ⟨a1, a2, _, _, a3⟩ := hL1 h0
    rw [a3]
    obtain ⟨v1, v2⟩ := val_take hdr.b a2 a1
    omega
  have hkn : L2 = 0 → 1 + k ≤ n := fun h0 => by have := (hL1 h0).2.1; omega
  have HV := Hid.mk hvb
  have HKN := Hid.mk hkn
  have HCAL := Hid.mk hcal
  have HRR := Hid.mk hR
  have HK := Hid.mk hk
  have HL := Hid.mk hl
  have h5' : (55 : Int) < x - 192 := h5
  clear hL1 hL hvb hkn hcal hR hk hl hdr h5
  by_cases hc1' : c = 1
  · subst hc1'
    have hn3 : n = 1 := by omega
    subst hn3
    simp only [if_true, Nat.sub_self] at HCAL
    go_enter Try.func76, Try.ntmps76
    go_wp2_with fail
    rw [HK.out]
    refine HCAL.out.mono ?_
    rintro e w1 ⟨rfl, hb⟩
    have h0 : L2 ≠ 0 := fun h => by have := HKN.out h; omega
    · have hr := HRR.out
      rw [if_pos h0] at hr
      have hee : ((L2 : Int) != 0) = true := by rw [bne_iff_ne]; omega
      subst hr
      clear h0
      go_wp2_with fail
      go_ret3
      exact ⟨rfl, hb⟩
  · rw [if_neg hc1'] at HCAL
    go_enter Try.func76, Try.ntmps76
    go_wp2_with fail
    rw [HK.out]
    refine HCAL.out.mono ?_
    rintro e w1 ⟨rfl, hb⟩
    by_cases h0 : L2 = 0
    · have hv := HV.out h0
      have hkn := HKN.out h0
      have hr := HRR.out
      rw [if_neg (by rw [h0]; simp)] at hr
      have hl := HL.out
      subst h0
      rw [show ((0 : Nat) : Int) = 0 from rfl]
      by_cases h6 : r.length + 1 - (1 + k) < L1
      · rw [if_pos h6] at hr
        have h7 : (n : Int) - (1 + k) < L1 := by omega
        subst hr
        clear hl h6
        go_wp2_with fail
        go_ret3
        exact ⟨rfl, hb⟩
      · rw [if_neg h6] at hr
        have h7 : ¬ (n : Int) - (1 + k) < L1 := by omega
        subst hr
        clear hl h6
        go_wp2_with fail
        go_ret3
        exact ⟨by simp [HR.f, HR.t, HR.e], hb⟩
    · have hr := HRR.out
      rw [if_pos h0] at hr
      have hee : ((L2 : Int) != 0) = true := by rw [bne_iff_ne]; omega
      subst hr
      clear h0
      go_wp2_with fail
      go_ret3
      exact ⟨rfl, hb⟩
set_option maxHeartbeats 1000000 in
theorem bodyAt_long128 (g off n c d k : Nat) (x : Int) (r : List Int) (w : World) (hcell : w.cell? ⟨g, off, none⟩ = some (.int .u8 x)) (hx0 : 0 ≤ x) (hx1 : x < 256) (hbig : ¬ 192 ≤ x) (h128 : ¬ x < 128) (hc1 : n ≤ c) (hc2 : c ≤ 2 ^ 63 - 1) (hn : n ≤ 4611686018427387904)
    (hl : r.length + 1 = n) (hdr : Ag w (if c = 1 then some ⟨g, off, none⟩ else some ⟨g, off + 1, none⟩) (n - 1) (c - 1) r) (h5 : 55 < x - 128) (hk : x - 128 - 55 = (k : Int)) (R : HR)
    (hR : (if (lenIn r k).2 ≠ 0 then HR.bad (lenIn r k).2 else if r.length + 1 - (1 + k) < (lenIn r k).1 then HR.bad 22 else HR.ok (1 + k) (1 + k + (lenIn r k).1)) = R) :
    Calls Try.prog 76 #[.slice (some ⟨g, off, none⟩) n c, .int .i64 d] w fun e w' => e = .returned (.tuple #[.int .i64 (R.f : Nat), .int .i64 (R.t : Nat), .int .i64 (R.e : Nat)]) ∧ Below w.heap.size w w' := by
  have hn0 : ((n : Int) == 0) = false := by simp; omega
  have hn1 : 0 < n := by omega
  have hn2 : (0 : Int) < n := by omega
  have hk1 : 1 ≤ k := by omega
  have hk8 : k ≤ 8 := by omega
  have hL1 := @lenIn_ok r k
  have hcal := lengthIn_any _ (n - 1) (c - 1) k r w hdr hk1 hk8 (by omega)
  obtain ⟨L, hL⟩ : ∃ L, lenIn r k = L := ⟨_, rfl⟩
  obtain ⟨L1, L2⟩ := L
  rw [hL] at hR hL1 hcal
  simp only at hR hL1 hcal
  have hvb : L2 = 0 → L1 < 16777216 := fun h0 => by
    obtain ⟨a1, a2, _, _, a3⟩ := hL1 h0
    rw [a3]
    obtain ⟨v1, v2⟩ := val_take hdr.b a2 a1
    omega
  have hkn : L2 = 0 → 1 + k ≤ n := fun h0 => by have := (hL1 h0).2.1; omega
  have HV := Hid.mk hvb
  have HKN := Hid.mk hkn
  have HCAL := Hid.mk hcal
  have HRR := Hid.mk hR
  have HK := Hid.mk hk
  have HL := Hid.mk hl
  have h5' : (55 : Int) < x - 128 := h5
  clear hL1 hL hvb hkn hcal hR hk hl hdr h5
  by_cases hc1' : c = 1
  · subst hc1'
    have hn3 : n = 1 := by omega
    subst hn3
    simp only [if_true, Nat.sub_self] at HCAL
    go_enter Try.func76, Try.ntmps76
    go_wp2_with fail
    rw [HK.out]
    refine HCAL.out.mono ?_
    rintro e w1 ⟨rfl, hb⟩
    have h0 : L2 ≠ 0 := fun h => by have := HKN.out h; omega
    · have hr := HRR.out
      rw [if_pos h0] at hr
      have hee : ((L2 : Int) != 0) = true := by rw [bne_iff_ne]; omega
      subst hr
      clear h0
      go_wp2_with fail
      go_ret3
      exact ⟨rfl, hb⟩
  · rw [if_neg hc1'] at HCAL
    go_enter Try.func76, Try.ntmps76
    go_wp2_with fail
    rw [HK.out]
    refine HCAL.out.mono ?_
    rintro e w1 ⟨rfl, hb⟩
    by_cases h0 : L2 = 0
    · have hv := HV.out h0
      have hkn := HKN.out h0
      have hr := HRR.out
      rw [if_neg (by rw [h0]; simp)] at hr
      have hl := HL.out
      subst h0
      rw [show ((0 : Nat) : Int) = 0 from rfl]
      by_cases h6 : r.length + 1 - (1 + k) < L1
      · rw [if_pos h6] at hr
        have h7 : (n : Int) - (1 + k) < L1 := by omega
        subst hr
        clear hl h6
        go_wp2_with fail
        go_ret3
        exact ⟨rfl, hb⟩
      · rw [if_neg h6] at hr
        have h7 : ¬ (n : Int) - (1 + k) < L1 := by omega
        subst hr
        clear hl h6
        go_wp2_with fail
        go_ret3
        exact ⟨by simp [HR.f, HR.t, HR.e], hb⟩
    · have hr := HRR.out
      rw [if_pos h0] at hr
      have hee : ((L2 : Int) != 0) = true := by rw [bne_iff_ne]; omega
      subst hr
      clear h0
      go_wp2_with fail
      go_ret3
      exact ⟨rfl, hb⟩
end Go.Proofs.Ytmofehloiiopfaa
/- What bodyAt answers. -/
namespace Go.Proofs.Ytmofehloiiopfaa
open Go.RowKit
set_option linter.unusedVariables false
set_option maxHeartbeats 2000000 in
theorem bodyAt_any (a : Option Addr) (n c d : Nat) (b : List Int) (w : World) (h : Ag w a n c b) (hd : d ≤ 8) (hn : n ≤ 4611686018427387904) :
    Calls Try.prog 76 #[.slice a n c, .int .i64 d] w fun e w' => e = .returned (.tuple #[.int .i64 ((hdr (decide (d = 8)) b).f : Nat), .int .i64 ((hdr (decide (d = 8)) b).t : Nat), .int .i64 ((hdr (decide (d = 8)) b).e : Nat)]) ∧ Below w.heap.size w w' := by
  have hl := h.l
  cases b with
  | nil =>
    simp at hl
    subst hl
    clear h
    go_enter Try.func76, Try.ntmps76
    go_wp2_with fail
    go_ret3
    exact ⟨rfl, Below.refl _ _⟩
  | cons x r =>
    simp only [List.length_cons] at hl
    obtain ⟨g, off, rfl, hc1, hc2, hc⟩ := ag_head h (by omega)
    unfold maxLen at hc2
    have hcell := hc 0 (by omega)
    simp only [Nat.add_zero, List.getD_cons_zero] at hcell
    obtain ⟨hx0, hx1⟩ := h.b x (by simp)
    have hn0 : ((n : Int) == 0) = false := by simp; omega
    have hn1 : 0 < n := by omega
    have hn2 : (0 : Int) < n := by omega
    have hdrop := ag_drop h (k := 1) (by omega)
    simp only [List.drop_succ_cons, List.drop_zero] at hdrop
    obtain ⟨R, hR⟩ : ∃ R, hdr (decide (d = 8)) (x :: r) = R := ⟨_, rfl⟩
    rw [hR]
    simp only [hdr, List.length_cons] at hR
    have HDR := Hid.mk hdrop
    have HL := Hid.mk hl
    clear h hc hdrop
    by_cases h1 : 192 ≤ x ∧ d = 8
    · obtain ⟨h1, rfl⟩ := h1
      rw [if_pos ⟨h1, by simp⟩] at hR
      subst hR
      clear hl
      go_enter Try.func76, Try.ntmps76
      go_wp2_with fail
      go_ret3
      exact ⟨rfl, Below.refl _ _⟩
    rw [if_neg (by simpa using h1)] at hR
    by_cases h2 : x < 128
    · rw [if_pos h2] at hR
      subst hR
      have h3 : ¬ 192 ≤ x := by omega
      clear hl h1
      go_enter Try.func76, Try.ntmps76
      go_wp2_with fail
      go_ret3
      exact ⟨rfl, Below.refl _ _⟩
    rw [if_neg h2] at hR
    by_cases hbig : 192 ≤ x
    · have hd8 : ((d : Int) == 8) = false := by simp; simp [hbig] at h1; omega
      have hnof : nOf x = (x - 192).toNat := by unfold nOf; rw [if_pos hbig]
      rw [hnof] at hR
      by_cases h5 : 55 < (x - 192).toNat
      · obtain ⟨k, hk⟩ : ∃ k : Nat, x - 192 - 55 = (k : Int) := ⟨(x - 192 - 55).toNat, by omega⟩
        rw [if_pos h5, show (x - 192).toNat - 55 = k from by omega] at hR
        exact bodyAt_long192 g off n c d k x r w hcell hx0 hx1 hbig hd8 h2 hc1 hc2 hn hl HDR.out (by omega) hk R hR
      · obtain ⟨m, hm⟩ : ∃ m : Nat, x - 192 = (m : Int) := ⟨(x - 192).toNat, by omega⟩
        rw [if_neg h5, show (x - 192).toNat = m from by omega] at hR
        have hm6 : ¬ (55 : Int) < x - 192 := by omega
        have HM := Hid.mk hm
        by_cases h6 : r.length + 1 - 1 < m
        · rw [if_pos h6] at hR
          subst hR
          have h7 : (n : Int) - 1 < x - 192 := by omega
          clear hnof h5 hl h1 hm h6
          go_enter Try.func76, Try.ntmps76
          go_wp2_with fail
          go_ret3
          exact ⟨rfl, Below.refl _ _⟩
        · rw [if_neg h6] at hR
          subst hR
          have h7 : ¬ (n : Int) - 1 < x - 192 := by omega
          clear hnof h5 hl h1 hm h6
          go_enter Try.func76, Try.ntmps76
          go_wp2_with fail
          go_ret3
          exact ⟨by simp [HR.f, HR.t, HR.e, HM.out], Below.refl _ _⟩
    · have hd9 : 128 ≤ x := by omega
      have hnof : nOf x = (x - 128).toNat := by unfold nOf; rw [if_neg hbig]
      rw [hnof] at hR
      by_cases h5 : 55 < (x - 128).toNat
      · obtain ⟨k, hk⟩ : ∃ k : Nat, x - 128 - 55 = (k : Int) := ⟨(x - 128 - 55).toNat, by omega⟩
        rw [if_pos h5, show (x - 128).toNat - 55 = k from by omega] at hR
        exact bodyAt_long128 g off n c d k x r w hcell hx0 hx1 hbig h2 hc1 hc2 hn hl HDR.out (by omega) hk R hR
      · obtain ⟨m, hm⟩ : ∃ m : Nat, x - 128 = (m : Int) := ⟨(x - 128).toNat, by omega⟩
        rw [if_neg h5, show (x - 128).toNat = m from by omega] at hR
        have hm6 : ¬ (55 : Int) < x - 128 := by omega
        have HM := Hid.mk hm
        by_cases h6 : r.length + 1 - 1 < m
        · rw [if_pos h6] at hR
          subst hR
          have h7 : (n : Int) - 1 < x - 128 := by omega
          clear hnof h5 hl h1 hm h6
          go_enter Try.func76, Try.ntmps76
          go_wp2_with fail
          go_ret3
          exact ⟨rfl, Below.refl _ _⟩
        · rw [if_neg h6] at hR
          subst hR
          have h7 : ¬ (n : Int) - 1 < x - 128 := by omega
          clear hnof h5 hl h1 hm h6
          go_enter Try.func76, Try.ntmps76
          go_wp2_with fail
          go_ret3
          exact ⟨by simp [HR.f, HR.t, HR.e, HM.out], Below.refl _ _⟩
end Go.Proofs.Ytmofehloiiopfaa

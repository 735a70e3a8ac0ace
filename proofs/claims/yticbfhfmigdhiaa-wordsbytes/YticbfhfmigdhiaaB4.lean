/- What the document's Read and Word answer. -/
import Derived.Test.YticbfhfmigdhiaaB3
namespace Go.Proofs.Yticbfhfmigdhiaa
open Go.RowKit
set_option linter.unusedVariables false
theorem rd_eq {b : List Int} (h : ∀ x ∈ b, 0 ≤ x ∧ x < 256) (h8 : ¬ 8 < b.length) : rdP b = if be (vl b) = b then (vl b, true) else (0, false) := by
  have := be_vl b h
  unfold rdP
  by_cases hh : 0 < b.length ∧ b.getD 0 0 = 0
  · rw [if_pos (.inr hh), if_neg (fun e => this.1 e hh)]
  · rw [if_neg (by rintro (q | q); exact h8 q; exact hh q), if_pos (this.2 hh)]
theorem vl8 {b : List Int} (h : ∀ x ∈ b, 0 ≤ x ∧ x < 256) (h8 : b.length ≤ 8) (j : Nat) : vl (b.take j) < 18446744073709551616 := by
  have h1 := vl_lt (b.take j) (fun x hx => h x (List.mem_of_mem_take hx))
  refine Nat.lt_of_lt_of_le h1 (show 256 ^ (b.take j).length ≤ 256 ^ 8 from Nat.pow_le_pow_right (by decide) ?_)
  rw [List.length_take]; omega
theorem rbytes_nat (x : Int) (v : Nat) (hxv : x.toNat = v) (hx0 : 0 ≤ x) (hx1 : x < 18446744073709551616) (w : World) :
    Calls Try.prog 18 #[.int .u64 x] w fun e w' => (∃ a c, e = .returned (.slice a (nb v) c) ∧ Ag w' a (nb v) c (be v)) ∧ Below w.heap.size w w' := hxv ▸ rbytes_any x hx0 hx1 w
set_option maxHeartbeats 1000000 in
theorem rread_any (a : Option Addr) (n c : Nat) (b : List Int) (w : World) (h : Ag w a n c b) (hn : n ≤ 140737488351232) :
    Calls Try.prog 16 #[.slice a n c] w fun e w' => e = .returned (.tuple #[.int .u64 ((rdP b).1 : Nat), .bool (rdP b).2]) ∧ Below w.heap.size w w' := by
  have hl := h.l
  by_cases h8 : 8 < b.length
  · unfold rdP
    rw [if_pos (.inl h8)]
    have h8i : (n : Int) > 8 := by omega
    clear h hl h8
    go_enter Try.func16, Try.ntmps16
    go_wp2_with fail
    go_ret2
    exact ⟨rfl, Below.refl _ _⟩
  have h8i : ¬ (n : Int) > 8 := by omega
  obtain ⟨⟨r1, r2⟩, hr⟩ : ∃ r, rdP b = r := ⟨_, rfl⟩
  rw [hr]
  have HR : Hid ((if be (vl b) = b then (vl b, true) else (0, false)) = (r1, r2)) := Hid.mk ((rd_eq h.b h8).symm.trans hr)
  clear hr
  have H8 : Hid (b.length ≤ 8) := Hid.mk (by omega)
  have HL := Hid.mk hl
  have HAG := Hid.mk h
  have HC : Hid (0 < n → ∃ g off, a = some ⟨g, off, none⟩ ∧ n ≤ c ∧ c ≤ maxLen ∧ ∀ j, j < n → w.cell? ⟨g, off + j, none⟩ = some (.int .u8 (b.getD j 0))) := Hid.mk (ag_head h)
  clear h hl h8
  go_enter Try.func16, Try.ntmps16
  go_wp2_with fail
  go_loopw [4, 5] (fun q i v => ∃ j : Nat, j ≤ n ∧ i = .int .i64 j ∧ q = .int .u64 (vl (b.take j) : Nat) ∧ v = w) (fun _ i _ => n - (intOf i).toNat)
  case atStart => exact ⟨0, by omega, rfl, rfl, rfl⟩
  case round =>
    obtain ⟨j, hj, rfl, rfl, rfl⟩ := hrel
    by_cases hlt : j < n
    · obtain ⟨g, off, rfl, hnc, hcm, hcs⟩ := HC.out (by omega)
      unfold maxLen at hcm
      have hcell := hcs j hlt
      have hb2 := HAG.out.b
      have hl := HL.out
      have hvs := vl_take (s := b) (j := j) (by omega)
      have hx := hb2 (b.getD j 0) (by rw [List.getD, List.getElem?_eq_getElem (by omega)]; exact List.getElem_mem _)
      have hv1 := vl8 hb2 H8.out (j + 1)
      obtain ⟨q, hqq⟩ : ∃ q : Int, ((vl (b.take j) : Nat) : Int) = q := ⟨_, rfl⟩
      obtain ⟨x, hxx⟩ : ∃ x, b.getD j 0 = x := ⟨_, rfl⟩
      rw [hxx] at hcell hx hvs
      obtain ⟨hx0, hx1⟩ := hx
      have hq0 : 0 ≤ q := by omega
      have hq1 : q * 256 + x < 18446744073709551616 := by omega
      have HV : Hid (((vl (b.take (j + 1)) : Nat) : Int) = q * 256 + x) := Hid.mk (by omega)
      rw [hqq]
      have hji : (j : Int) < n := by omega
      clear hvs hb2 hl hv1 hqq hxx hcs
      go_wp2_with fail
      exact ⟨⟨j + 1, by omega, by simp, by rw [HV.out], trivial⟩, by simp [intOf]; omega⟩
    · have hji : ¬ (j : Int) < n := by omega
      have hl := HL.out
      have hv1 := vl8 HAG.out.b H8.out b.length
      rw [List.take_length] at hv1
      have e : b.take j = b := List.take_of_length_le (by omega)
      rw [e]
      have HBB : Hid (∀ (y : Nat), ((strOfNums (be y)).toList == (strOfNums b).toList) = decide (be y = b)) := Hid.mk fun y => str_beq (be_bd y) HAG.out.b
      obtain ⟨q, hq⟩ : ∃ q : Int, ((vl b : Nat) : Int) = q := ⟨_, rfl⟩
      have HQ : Hid (q.toNat = vl b) := Hid.mk (by omega)
      have hq0 : 0 ≤ q := by omega
      have hq1 : q < 18446744073709551616 := by omega
      have hrr := HR.out
      clear hl e hv1 HC HR
      have k00 := conv_any HAG.out.i.drew
      by_cases hbe : be (vl b) = b
      · rw [if_pos hbe] at hrr
        obtain ⟨rfl, rfl⟩ := Prod.mk.inj hrr
        clear hrr
        rw [hq]
        have HBE := Hid.mk hbe
        have HQ2 := Hid.mk hq
        clear hq hbe
        go_wp2_with fail
        go_region_with (first | (go_at_call 18; refine (rbytes_nat q _ HQ.out hq0 hq1 _).mono ?_; rintro e w1 ⟨⟨a1, c1, rfl, hag1⟩, hb1⟩; have k1 := conv_any hag1.i; have k2 := conv_any (HAG.out.i.drew.mono hb1); rw [HBE.out] at k1; clear hag1))
        all_goals
          go_wp2_with fail
          go_ret2
          exact ⟨by rw [HQ2.out]; rfl, (Below.refl wr.heap.size wr).drew.trans hb1⟩
      · rw [if_neg hbe] at hrr
        obtain ⟨rfl, rfl⟩ := Prod.mk.inj hrr
        clear hrr
        rw [hq]
        have hbb := HBB.out (vl b)
        rw [decide_eq_false hbe] at hbb
        have hbn : ((strOfNums (be (vl b))).toList != (strOfNums b).toList) = true := by rw [bne, hbb]; rfl
        have hbx : ¬ (strOfNums (be (vl b))).toList = (strOfNums b).toList := by rw [beq_eq_false_iff_ne] at hbb; exact hbb
        clear hq hbe
        go_wp2_with fail
        go_region_with (first | (go_at_call 18; refine (rbytes_nat q _ HQ.out hq0 hq1 _).mono ?_; rintro e w1 ⟨⟨a1, c1, rfl, hag1⟩, hb1⟩; have k1 := conv_any hag1.i; have k2 := conv_any (HAG.out.i.drew.mono hb1); clear hag1))
        all_goals
          go_wp2_with fail
          go_ret2
          exact ⟨rfl, (Below.refl wr.heap.size wr).drew.trans hb1⟩
set_option maxHeartbeats 1000000 in
theorem rword_any (a : Option Addr) (n c : Nat) (b : List Int) (w : World) (h : Ag w a n c b) (hn : n ≤ 140737488351232) :
    Calls Try.prog 21 #[.slice a n c] w fun e w' => e = .returned (.tuple #[.int .u64 ((wdP b).1 : Nat), .bool (wdP b).2]) ∧ w' = w := by
  have hl := h.l
  unfold wdP
  by_cases h8 : b.length = 8
  · rw [if_pos h8]
    have h8i : n = 8 := by omega
    subst h8i
    have HL := Hid.mk h8
    have HB := Hid.mk h.b
    obtain ⟨g, off, rfl, hnc, hcm, hcs⟩ := ag_head h (by omega)
    unfold maxLen at hcm
    have HC := Hid.mk hcs
    clear h hl h8 hcs
    go_enter Try.func21, Try.ntmps21
    go_wp2_with fail
    go_loopw [4, 5] (fun q i v => ∃ j : Nat, j ≤ 8 ∧ i = .int .i64 j ∧ q = .int .u64 (vl (b.take j) : Nat) ∧ v = w) (fun _ i _ => 8 - (intOf i).toNat)
    case atStart => exact ⟨0, by omega, rfl, rfl, rfl⟩
    case round =>
      obtain ⟨j, hj, rfl, rfl, rfl⟩ := hrel
      by_cases hlt : j < 8
      · have hcell := HC.out j hlt
        have hb2 := HB.out
        have hl := HL.out
        have hvs := vl_take (s := b) (j := j) (by omega)
        have hx := hb2 (b.getD j 0) (by rw [List.getD, List.getElem?_eq_getElem (by omega)]; exact List.getElem_mem _)
        have hv1 := vl8 hb2 (by omega) (j + 1)
        obtain ⟨q, hqq⟩ : ∃ q : Int, ((vl (b.take j) : Nat) : Int) = q := ⟨_, rfl⟩
        obtain ⟨x, hxx⟩ : ∃ x, b.getD j 0 = x := ⟨_, rfl⟩
        rw [hxx] at hcell hx hvs
        obtain ⟨hx0, hx1⟩ := hx
        have hq0 : 0 ≤ q := by omega
        have hq1 : q * 256 + x < 18446744073709551616 := by omega
        have HV : Hid (((vl (b.take (j + 1)) : Nat) : Int) = q * 256 + x) := Hid.mk (by omega)
        rw [hqq]
        have hji : (j : Int) < 8 := by omega
        clear hvs hb2 hl hv1 hqq hxx
        go_wp2_with fail
        exact ⟨⟨j + 1, by omega, by simp, by rw [HV.out], trivial⟩, by simp [intOf]; omega⟩
      · have hji : ¬ (j : Int) < 8 := by omega
        have hl := HL.out
        have e : b.take j = b := List.take_of_length_le (by omega)
        rw [e]
        clear hl e
        go_wp2_with fail
        go_ret2
        exact ⟨rfl, rfl⟩
  · rw [if_neg h8]
    have h8i : ((n : Int) != 8) = true := by rw [bne_iff_ne]; omega
    clear h hl h8
    go_enter Try.func21, Try.ntmps21
    go_wp2_with fail
    go_ret2
    exact ⟨rfl, rfl⟩
end Go.Proofs.Yticbfhfmigdhiaa

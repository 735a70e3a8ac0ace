/- That WordsBack answers true. -/
import Derived.Test.YticbfhfmigdhiaaX0
namespace Go.Proofs.Yticbfhfmigdhiaa
open Go.RowKit
set_option linter.unusedVariables false
theorem rd_be {n : Nat} (h : n < 18446744073709551616) : rdP (be n) = (n, true) := by
  have := nb8 h
  rw [rd_eq (be_bd n) (by rw [be_len]; omega), vl_be, if_pos rfl]
theorem wd_bek {n : Nat} (h : n < 18446744073709551616) : wdP (bek 8 n) = (n, true) := by
  unfold wdP
  rw [if_pos (bek_len _ _), vl_bek 8 n h]
theorem rd_back {b : List Int} (hb : ∀ x ∈ b, 0 ≤ x ∧ x < 256) (h : (rdP b).2 = true) : be (rdP b).1 = b ∧ (rdP b).1 < 18446744073709551616 := by
  by_cases h8 : 8 < b.length
  · unfold rdP at h; rw [if_pos (.inl h8)] at h; cases h
  · rw [rd_eq hb h8] at h ⊢
    have hv := vl8 hb (by omega) b.length
    rw [List.take_length] at hv
    by_cases hbe : be (vl b) = b
    · rw [if_pos hbe]; exact ⟨hbe, hv⟩
    · rw [if_neg hbe] at h; cases h
theorem wd_back {b : List Int} (hb : ∀ x ∈ b, 0 ≤ x ∧ x < 256) (h : (wdP b).2 = true) : bek 8 (wdP b).1 = b ∧ (wdP b).1 < 18446744073709551616 := by
  unfold wdP at h ⊢
  by_cases h8 : b.length = 8
  · rw [if_pos h8]
    refine ⟨by have := bek_vl b hb; rwa [h8] at this, ?_⟩
    have := vl_lt b hb
    rw [h8] at this
    exact this
  · rw [if_neg h8] at h; cases h
theorem nat_int (x : Int) (h : 0 ≤ x) : ((x.toNat : Nat) : Int) = x := by omega
set_option maxHeartbeats 8000000 in
theorem back_law (x : Int) (a : Option Addr) (n c : Nat) (b : List Int) (s : ByteArray) (hx : 0 ≤ x ∧ x < 18446744073709551616) (hn : n ≤ 140737488351232) (hs : s.size ≤ maxLen) (w : World) (hag : Ag w a n c b) :
    Calls Try.prog 7 #[.int .u64 x, .slice a n c, .string s] w fun e w' => e = .returned (.bool true) ∧ Below w.heap.size w w' := by
  have hxn : x.toNat < 18446744073709551616 := by omega
  have HA := Hid.mk hag
  have HX := Hid.mk hx
  have HS := Hid.mk hs
  have HXN := Hid.mk hxn
  have H1 := Hid.mk (bytes_any x hx.1 hx.2)
  have H2 := Hid.mk (key_any x hx.1 hx.2)
  have H3 := Hid.mk (print_any x hx.1 hx.2)
  clear hag hx hs hxn
  go_enter Try.func7, Try.ntmps7
  go_wp2_with fail
  refine (H1.out w).mono ?_
  rintro e w1 ⟨rfl, hr1, hb1⟩
  have HB1 := Hid.mk hb1
  have h4 := read_any _ _ _ _ w1 (row_ag hr1 (be_len _) (be_bd _) (by have := nb8 HXN.out; omega)) (by have := nb8 HXN.out; omega)
  rw [rd_be HXN.out] at h4
  simp only at h4
  rw [nat_int x HX.out.1] at h4
  have H4 := Hid.mk h4
  clear h4 hr1 hb1 H1
  go_wp2_with fail
  refine H4.out.mono ?_
  rintro e w2 ⟨rfl, rfl⟩
  clear H4
  go_wp2_with fail
  refine (H2.out w2).mono ?_
  rintro e w3 ⟨rfl, hr3, hb3⟩
  have HB3 := Hid.mk (below_go HB1.out hb3)
  have h5 := word_any _ _ _ _ w3 (row_ag hr3 (bek_len _ _) (bek_bd _ _) (by omega)) (by omega)
  rw [wd_bek HXN.out] at h5
  simp only at h5
  rw [nat_int x HX.out.1] at h5
  have H5 := Hid.mk h5
  clear h5 hr3 hb3 H2
  go_wp2_with fail
  refine H5.out.mono ?_
  rintro e w4 ⟨rfl, rfl⟩
  clear H5
  go_wp2_with fail
  refine (H3.out w4).mono ?_
  rintro e w5 ⟨rfl, hb5⟩
  have HB5 := Hid.mk (below_go HB3.out hb5)
  have h6 := parse_any (strOfNums (pr x.toNat)) (by rw [strOfNums_size]; have := pr_len HXN.out; unfold maxLen; omega) w5
  rw [sb_str (digits_bd (pr_digits _)), ps_pr HXN.out] at h6
  simp only at h6
  rw [nat_int x HX.out.1] at h6
  have H6 := Hid.mk h6
  clear h6 hb5 H3
  generalize strOfNums (pr x.toNat) = tx at *
  go_wp2_with fail
  refine H6.out.mono ?_
  rintro e w6 ⟨rfl, rfl⟩
  clear H6
  have HA6 := Hid.mk (HA.out.at HB5.out)
  have H7 := Hid.mk (read_any a n c b w6 HA6.out hn)
  have H8 := Hid.mk (parse_any s HS.out w6)
  have H9 := Hid.mk (word_any a n c b w6 HA6.out hn)
  have R7 := Hid.mk (fun h => rd_back HA.out.b h)
  have R8 := Hid.mk (fun h => ps_back (s := sb s) h)
  have R9 := Hid.mk (fun h => wd_back HA.out.b h)
  generalize rdP b = p7 at *
  generalize ps (sb s) = p8 at *
  generalize wdP b = p9 at *
  obtain ⟨u, ok⟩ := p7
  obtain ⟨v, is⟩ := p8
  obtain ⟨t, also⟩ := p9
  simp only at H7 H8 H9 R7 R8 R9
  go_wp2_with fail
  refine H7.out.mono ?_
  rintro e w7 ⟨rfl, rfl⟩
  clear H7
  go_wp2_with fail
  refine H8.out.mono ?_
  rintro e w8 ⟨rfl, rfl⟩
  clear H8
  go_wp2_with fail
  refine H9.out.mono ?_
  rintro e w9 ⟨rfl, rfl⟩
  clear H9
  obtain ⟨u', hu⟩ : ∃ u' : Int, ((u : Nat) : Int) = u' := ⟨_, rfl⟩
  obtain ⟨v', hv⟩ : ∃ v' : Int, ((v : Nat) : Int) = v' := ⟨_, rfl⟩
  obtain ⟨t', ht⟩ : ∃ t' : Int, ((t : Nat) : Int) = t' := ⟨_, rfl⟩
  rw [hu, hv, ht]
  have F7 : ok = true → (0 ≤ u' ∧ u' < 18446744073709551616) ∧ be u'.toNat = b := fun h => by
    have := R7.out h
    exact ⟨by omega, by rw [← hu, Int.toNat_natCast]; exact this.1⟩
  have F8 : is = true → (0 ≤ v' ∧ v' < 18446744073709551616) ∧ strOfNums (pr v'.toNat) = s := fun h => by
    have := R8.out h
    exact ⟨by omega, by rw [← hv, Int.toNat_natCast, this.1, str_sb]⟩
  have F9 : also = true → (0 ≤ t' ∧ t' < 18446744073709551616) ∧ bek 8 t'.toNat = b := fun h => by
    have := R9.out h
    exact ⟨by omega, by rw [← ht, Int.toNat_natCast]; exact this.1⟩
  clear R7 R8 R9 hu hv ht HA HX HS HXN HB1 HB3 hn
  have HBW := HB5
  have HAG := HA6
  clear HB5 HA6
  clear u v t
  revert F7 F8 F9
  generalize hu : u' = u
  generalize hv : v' = v
  generalize ht : t' = t
  clear hu hv ht
  cases ok <;> cases is <;> cases also <;> intro F7 F8 F9
  · clear F7 F8 F9
    go_wp2_with fail
    rename_i K hk
    refine wp_region_any (by kernel_rfl) ?_
    try (change wpAny _ _ _ _ _ _ _ (World.drew _))
    refine rd_take 0 77 (.bool false) rfl rfl (by kernel_rfl) (by kernel_rfl) (by kernel_rfl) (fun _ _ _ h => h) (by kernel_rfl) (fun w => by kernel_rfl) ?_
    refine rd_take 1 78 (.bool true) rfl rfl (by kernel_rfl) (by kernel_rfl) (by kernel_rfl) (fun _ _ _ h => h) (by kernel_rfl) (fun w => by kernel_rfl) ?_
    refine rd_take 2 79 (.bool true) rfl rfl (by kernel_rfl) (by kernel_rfl) (by kernel_rfl) (fun _ _ _ h => h) (by kernel_rfl) (fun w => by kernel_rfl) ?_
    refine rd_skip 3 80 rfl rfl (by kernel_rfl) (by kernel_rfl) (by kernel_rfl) (fun _ _ _ h => h) (by kernel_rfl) ?_
    refine rd_skip 4 81 rfl rfl (by kernel_rfl) (by kernel_rfl) (by kernel_rfl) (fun _ _ _ h => h) (by kernel_rfl) ?_
    refine rd_skip 5 82 rfl rfl (by kernel_rfl) (by kernel_rfl) (by kernel_rfl) (fun _ _ _ h => h) (by kernel_rfl) ?_
    refine rd_skip 6 83 rfl rfl (by kernel_rfl) (by kernel_rfl) (by kernel_rfl) (fun _ _ _ h => h) (by kernel_rfl) ?_
    refine rd_skip 7 84 rfl rfl (by kernel_rfl) (by kernel_rfl) (by kernel_rfl) (fun _ _ _ h => h) (by kernel_rfl) ?_
    refine rd_skip 8 85 rfl rfl (by kernel_rfl) (by kernel_rfl) (by kernel_rfl) (fun _ _ _ h => h) (by kernel_rfl) ?_
    refine rd_take 9 86 (.bool true) rfl rfl (by kernel_rfl) (by kernel_rfl) (by kernel_rfl) (fun _ _ _ h => h) (by kernel_rfl) (fun w => by kernel_rfl) ?_
    refine rd_take 10 87 (.bool true) rfl rfl (by kernel_rfl) (by kernel_rfl) (by kernel_rfl) (fun _ _ _ h => h) (by kernel_rfl) (fun w => by kernel_rfl) ?_
    refine rd_take 11 88 (.bool false) rfl rfl (by kernel_rfl) (by kernel_rfl) (by kernel_rfl) (fun _ _ _ h => h) (by kernel_rfl) (fun w => by kernel_rfl) ?_
    refine rd_take 12 89 (.bool true) rfl rfl (by kernel_rfl) (by kernel_rfl) (by kernel_rfl) (fun _ _ _ h => h) (by kernel_rfl) (fun w => by kernel_rfl) ?_
    refine rd_take 13 90 (.bool true) rfl rfl (by kernel_rfl) (by kernel_rfl) (by kernel_rfl) (fun _ _ _ h => h) (by kernel_rfl) (fun w => by kernel_rfl) ?_
    refine rd_skip 14 91 rfl rfl (by kernel_rfl) (by kernel_rfl) (by kernel_rfl) (fun _ _ _ h => h) (by kernel_rfl) ?_
    refine rd_skip 15 92 rfl rfl (by kernel_rfl) (by kernel_rfl) (by kernel_rfl) (fun _ _ _ h => h) (by kernel_rfl) ?_
    refine rd_skip 16 93 rfl rfl (by kernel_rfl) (by kernel_rfl) (by kernel_rfl) (fun _ _ _ h => h) (by kernel_rfl) ?_
    refine rd_skip 17 94 rfl rfl (by kernel_rfl) (by kernel_rfl) (by kernel_rfl) (fun _ _ _ h => h) (by kernel_rfl) ?_
    refine rd_take 18 95 (.bool true) rfl rfl (by kernel_rfl) (by kernel_rfl) (by kernel_rfl) (fun _ _ _ h => h) (by kernel_rfl) (fun w => by kernel_rfl) ?_
    refine rd_take 19 96 (.bool true) rfl rfl (by kernel_rfl) (by kernel_rfl) (by kernel_rfl) (fun _ _ _ h => h) (by kernel_rfl) (fun w => by kernel_rfl) ?_
    refine rd_take 20 97 (.bool true) rfl rfl (by kernel_rfl) (by kernel_rfl) (by kernel_rfl) (fun _ _ _ h => h) (by kernel_rfl) (fun w => by kernel_rfl) ?_
    refine rd_take 21 98 (.bool false) rfl rfl (by kernel_rfl) (by kernel_rfl) (by kernel_rfl) (fun _ _ _ h => h) (by kernel_rfl) (fun w => by kernel_rfl) ?_
    refine rd_take 22 99 (.bool true) rfl rfl (by kernel_rfl) (by kernel_rfl) (by kernel_rfl) (fun _ _ _ h => h) (by kernel_rfl) (fun w => by kernel_rfl) ?_
    refine rd_take 23 100 (.bool true) rfl rfl (by kernel_rfl) (by kernel_rfl) (by kernel_rfl) (fun _ _ _ h => h) (by kernel_rfl) (fun w => by kernel_rfl) ?_
    refine rd_skip 24 101 rfl rfl (by kernel_rfl) (by kernel_rfl) (by kernel_rfl) (fun _ _ _ h => h) (by kernel_rfl) ?_
    refine rd_skip 25 102 rfl rfl (by kernel_rfl) (by kernel_rfl) (by kernel_rfl) (fun _ _ _ h => h) (by kernel_rfl) ?_
    refine rd_skip 26 103 rfl rfl (by kernel_rfl) (by kernel_rfl) (by kernel_rfl) (fun _ _ _ h => h) (by kernel_rfl) ?_
    refine rd_skip 27 104 rfl rfl (by kernel_rfl) (by kernel_rfl) (by kernel_rfl) (fun _ _ _ h => h) (by kernel_rfl) ?_
    refine rd_skip 28 105 rfl rfl (by kernel_rfl) (by kernel_rfl) (by kernel_rfl) (fun _ _ _ h => h) (by kernel_rfl) ?_
    refine rd_skip 29 106 rfl rfl (by kernel_rfl) (by kernel_rfl) (by kernel_rfl) (fun _ _ _ h => h) (by kernel_rfl) ?_
    refine rd_take 30 107 (.bool true) rfl rfl (by kernel_rfl) (by kernel_rfl) (by kernel_rfl) (fun _ _ _ h => h) (by kernel_rfl) (fun w => by kernel_rfl) ?_
    refine rd_take 31 108 (.bool true) rfl rfl (by kernel_rfl) (by kernel_rfl) (by kernel_rfl) (fun _ _ _ h => h) (by kernel_rfl) (fun w => by kernel_rfl) ?_
    refine rd_take 32 6 (.bool true) rfl rfl (by kernel_rfl) (by kernel_rfl) (by kernel_rfl) (fun _ _ _ h => h) (by kernel_rfl) (fun w => by kernel_rfl) ?_
    refine wpAny_done (by kernel_rfl) ?_ _
    exact hk _ _ (end_ret 6 rfl (by kernel_rfl) (by kernel_rfl) HBW.out.drew)
  · have HT := Hid.mk (F9 rfl).1
    have HTB := Hid.mk (F9 rfl).2
    clear F7 F8 F9
    go_wp2_with fail
    rename_i K hk
    refine wp_region_any (by kernel_rfl) ?_
    try (change wpAny _ _ _ _ _ _ _ (World.drew _))
    refine rd_take 0 77 (.bool false) rfl rfl (by kernel_rfl) (by kernel_rfl) (by kernel_rfl) (fun _ _ _ h => h) (by kernel_rfl) (fun w => by kernel_rfl) ?_
    refine rd_take 1 78 (.bool true) rfl rfl (by kernel_rfl) (by kernel_rfl) (by kernel_rfl) (fun _ _ _ h => h) (by kernel_rfl) (fun w => by kernel_rfl) ?_
    refine rd_take 2 79 (.bool true) rfl rfl (by kernel_rfl) (by kernel_rfl) (by kernel_rfl) (fun _ _ _ h => h) (by kernel_rfl) (fun w => by kernel_rfl) ?_
    refine rd_skip 3 80 rfl rfl (by kernel_rfl) (by kernel_rfl) (by kernel_rfl) (fun _ _ _ h => h) (by kernel_rfl) ?_
    refine rd_skip 4 81 rfl rfl (by kernel_rfl) (by kernel_rfl) (by kernel_rfl) (fun _ _ _ h => h) (by kernel_rfl) ?_
    refine rd_skip 5 82 rfl rfl (by kernel_rfl) (by kernel_rfl) (by kernel_rfl) (fun _ _ _ h => h) (by kernel_rfl) ?_
    refine rd_skip 6 83 rfl rfl (by kernel_rfl) (by kernel_rfl) (by kernel_rfl) (fun _ _ _ h => h) (by kernel_rfl) ?_
    refine rd_skip 7 84 rfl rfl (by kernel_rfl) (by kernel_rfl) (by kernel_rfl) (fun _ _ _ h => h) (by kernel_rfl) ?_
    refine rd_skip 8 85 rfl rfl (by kernel_rfl) (by kernel_rfl) (by kernel_rfl) (fun _ _ _ h => h) (by kernel_rfl) ?_
    refine rd_take 9 86 (.bool true) rfl rfl (by kernel_rfl) (by kernel_rfl) (by kernel_rfl) (fun _ _ _ h => h) (by kernel_rfl) (fun w => by kernel_rfl) ?_
    refine rd_take 10 87 (.bool true) rfl rfl (by kernel_rfl) (by kernel_rfl) (by kernel_rfl) (fun _ _ _ h => h) (by kernel_rfl) (fun w => by kernel_rfl) ?_
    refine rd_take 11 88 (.bool false) rfl rfl (by kernel_rfl) (by kernel_rfl) (by kernel_rfl) (fun _ _ _ h => h) (by kernel_rfl) (fun w => by kernel_rfl) ?_
    refine rd_take 12 89 (.bool true) rfl rfl (by kernel_rfl) (by kernel_rfl) (by kernel_rfl) (fun _ _ _ h => h) (by kernel_rfl) (fun w => by kernel_rfl) ?_
    refine rd_take 13 90 (.bool true) rfl rfl (by kernel_rfl) (by kernel_rfl) (by kernel_rfl) (fun _ _ _ h => h) (by kernel_rfl) (fun w => by kernel_rfl) ?_
    refine rd_skip 14 91 rfl rfl (by kernel_rfl) (by kernel_rfl) (by kernel_rfl) (fun _ _ _ h => h) (by kernel_rfl) ?_
    refine rd_skip 15 92 rfl rfl (by kernel_rfl) (by kernel_rfl) (by kernel_rfl) (fun _ _ _ h => h) (by kernel_rfl) ?_
    refine rd_skip 16 93 rfl rfl (by kernel_rfl) (by kernel_rfl) (by kernel_rfl) (fun _ _ _ h => h) (by kernel_rfl) ?_
    refine rd_skip 17 94 rfl rfl (by kernel_rfl) (by kernel_rfl) (by kernel_rfl) (fun _ _ _ h => h) (by kernel_rfl) ?_
    refine rd_take 18 95 (.bool true) rfl rfl (by kernel_rfl) (by kernel_rfl) (by kernel_rfl) (fun _ _ _ h => h) (by kernel_rfl) (fun w => by kernel_rfl) ?_
    refine rd_take 19 96 (.bool true) rfl rfl (by kernel_rfl) (by kernel_rfl) (by kernel_rfl) (fun _ _ _ h => h) (by kernel_rfl) (fun w => by kernel_rfl) ?_
    refine rd_take 20 97 (.bool true) rfl rfl (by kernel_rfl) (by kernel_rfl) (by kernel_rfl) (fun _ _ _ h => h) (by kernel_rfl) (fun w => by kernel_rfl) ?_
    refine rd_take 21 98 (.bool true) rfl rfl (by kernel_rfl) (by kernel_rfl) (by kernel_rfl) (fun _ _ _ h => h) (by kernel_rfl) (fun w => by kernel_rfl) ?_
    refine rd_take 22 99 (.bool false) rfl rfl (by kernel_rfl) (by kernel_rfl) (by kernel_rfl) (fun _ _ _ h => h) (by kernel_rfl) (fun w => by kernel_rfl) ?_
    refine rd_take 23 100 (.bool false) rfl rfl (by kernel_rfl) (by kernel_rfl) (by kernel_rfl) (fun _ _ _ h => h) (by kernel_rfl) (fun w => by kernel_rfl) ?_
    refine rd_take 24 101 (.int .u64 t) rfl rfl (by kernel_rfl) (by kernel_rfl) (by kernel_rfl) (fun _ _ _ h => h) (by kernel_rfl) (fun w => by kernel_rfl) ?_
    refine rd_take 27 104 (.slice a n c) rfl rfl (by kernel_rfl) (by kernel_rfl) (by kernel_rfl) (fun _ _ _ h => h) (by kernel_rfl) (fun w => by kernel_rfl) ?_
    refine wpAny_ready (rs := [25, 28]) (by kernel_rfl) (by simp) ?_
    refine rd_call 25 102 rfl rfl (by kernel_rfl) 22 #[.int .u64 t] (by kernel_rfl) (key_R t HT.out _) ?_ ?_
    · rintro v wc1 ⟨rg1, rfl, ra1, rb1⟩
      refine wpAny_ready (rs := [26, 28]) (by kernel_rfl) (by simp) ?_
      refine rd_run 26 103 (.string (strOfNums (bek 8 t.toNat))) rfl rfl (by kernel_rfl) (rd_conv rfl (by kernel_rfl) (conv_any (Ag.i (ra1)))) ?_ ?_
      ·
       refine wpAny_ready (rs := [28]) (by kernel_rfl) (by simp) ?_
       refine rd_run 28 105 (.string (strOfNums b)) rfl rfl (by kernel_rfl) (rd_conv rfl (by kernel_rfl) (conv_any (Ag.i (Ag.at (HAG.out.drew) rb1)))) ?_ ?_
       ·
        refine rd_take 29 106 (.bool true) rfl rfl (by kernel_rfl) (by kernel_rfl) (by kernel_rfl) (fun _ _ _ h => h) (by kernel_rfl) (fun w => rd_eqs (s1 := (strOfNums (bek 8 t.toNat))) (s2 := (strOfNums b)) rfl (by kernel_rfl) (by kernel_rfl) (by rw [HTB.out]; simp)) ?_
        refine rd_take 30 107 (.bool true) rfl rfl (by kernel_rfl) (by kernel_rfl) (by kernel_rfl) (fun _ _ _ h => h) (by kernel_rfl) (fun w => by kernel_rfl) ?_
        refine rd_take 31 108 (.bool true) rfl rfl (by kernel_rfl) (by kernel_rfl) (by kernel_rfl) (fun _ _ _ h => h) (by kernel_rfl) (fun w => by kernel_rfl) ?_
        refine rd_take 32 6 (.bool true) rfl rfl (by kernel_rfl) (by kernel_rfl) (by kernel_rfl) (fun _ _ _ h => h) (by kernel_rfl) (fun w => by kernel_rfl) ?_
        refine wpAny_done (by kernel_rfl) ?_ _
        exact hk _ _ (end_ret 6 rfl (by kernel_rfl) (by kernel_rfl) (below_go HBW.out.drew rb1))
       exact AllReady.nil
      refine rd_run 28 105 (.string (strOfNums b)) rfl rfl (by kernel_rfl) (rd_conv rfl (by kernel_rfl) (conv_any (Ag.i (Ag.at (HAG.out.drew) rb1)))) ?_ ?_
      ·
       refine wpAny_ready (rs := [26]) (by kernel_rfl) (by simp) ?_
       refine rd_run 26 103 (.string (strOfNums (bek 8 t.toNat))) rfl rfl (by kernel_rfl) (rd_conv rfl (by kernel_rfl) (conv_any (Ag.i (ra1)))) ?_ ?_
       ·
        refine rd_take 29 106 (.bool true) rfl rfl (by kernel_rfl) (by kernel_rfl) (by kernel_rfl) (fun _ _ _ h => h) (by kernel_rfl) (fun w => rd_eqs (s1 := (strOfNums (bek 8 t.toNat))) (s2 := (strOfNums b)) rfl (by kernel_rfl) (by kernel_rfl) (by rw [HTB.out]; simp)) ?_
        refine rd_take 30 107 (.bool true) rfl rfl (by kernel_rfl) (by kernel_rfl) (by kernel_rfl) (fun _ _ _ h => h) (by kernel_rfl) (fun w => by kernel_rfl) ?_
        refine rd_take 31 108 (.bool true) rfl rfl (by kernel_rfl) (by kernel_rfl) (by kernel_rfl) (fun _ _ _ h => h) (by kernel_rfl) (fun w => by kernel_rfl) ?_
        refine rd_take 32 6 (.bool true) rfl rfl (by kernel_rfl) (by kernel_rfl) (by kernel_rfl) (fun _ _ _ h => h) (by kernel_rfl) (fun w => by kernel_rfl) ?_
        refine wpAny_done (by kernel_rfl) ?_ _
        exact hk _ _ (end_ret 6 rfl (by kernel_rfl) (by kernel_rfl) (below_go HBW.out.drew rb1))
       exact AllReady.nil
      exact AllReady.nil
    refine rd_run 28 105 (.string (strOfNums b)) rfl rfl (by kernel_rfl) (rd_conv rfl (by kernel_rfl) (conv_any (Ag.i (HAG.out.drew)))) ?_ ?_
    ·
     refine wpAny_ready (rs := [25]) (by kernel_rfl) (by simp) ?_
     refine rd_call 25 102 rfl rfl (by kernel_rfl) 22 #[.int .u64 t] (by kernel_rfl) (key_R t HT.out _) ?_ ?_
     · rintro v wc2 ⟨rg2, rfl, ra2, rb2⟩
       refine wpAny_ready (rs := [26]) (by kernel_rfl) (by simp) ?_
       refine rd_run 26 103 (.string (strOfNums (bek 8 t.toNat))) rfl rfl (by kernel_rfl) (rd_conv rfl (by kernel_rfl) (conv_any (Ag.i (ra2)))) ?_ ?_
       ·
        refine rd_take 29 106 (.bool true) rfl rfl (by kernel_rfl) (by kernel_rfl) (by kernel_rfl) (fun _ _ _ h => h) (by kernel_rfl) (fun w => rd_eqs (s1 := (strOfNums (bek 8 t.toNat))) (s2 := (strOfNums b)) rfl (by kernel_rfl) (by kernel_rfl) (by rw [HTB.out]; simp)) ?_
        refine rd_take 30 107 (.bool true) rfl rfl (by kernel_rfl) (by kernel_rfl) (by kernel_rfl) (fun _ _ _ h => h) (by kernel_rfl) (fun w => by kernel_rfl) ?_
        refine rd_take 31 108 (.bool true) rfl rfl (by kernel_rfl) (by kernel_rfl) (by kernel_rfl) (fun _ _ _ h => h) (by kernel_rfl) (fun w => by kernel_rfl) ?_
        refine rd_take 32 6 (.bool true) rfl rfl (by kernel_rfl) (by kernel_rfl) (by kernel_rfl) (fun _ _ _ h => h) (by kernel_rfl) (fun w => by kernel_rfl) ?_
        refine wpAny_done (by kernel_rfl) ?_ _
        exact hk _ _ (end_ret 6 rfl (by kernel_rfl) (by kernel_rfl) (below_go HBW.out.drew rb2))
       exact AllReady.nil
     exact AllReady.nil
    exact AllReady.nil
  · have HV := Hid.mk (F8 rfl).1
    have HVB := Hid.mk (F8 rfl).2
    clear F7 F8 F9
    go_wp2_with fail
    rename_i K hk
    refine wp_region_any (by kernel_rfl) ?_
    try (change wpAny _ _ _ _ _ _ _ (World.drew _))
    refine rd_take 0 77 (.bool false) rfl rfl (by kernel_rfl) (by kernel_rfl) (by kernel_rfl) (fun _ _ _ h => h) (by kernel_rfl) (fun w => by kernel_rfl) ?_
    refine rd_take 1 78 (.bool true) rfl rfl (by kernel_rfl) (by kernel_rfl) (by kernel_rfl) (fun _ _ _ h => h) (by kernel_rfl) (fun w => by kernel_rfl) ?_
    refine rd_take 2 79 (.bool true) rfl rfl (by kernel_rfl) (by kernel_rfl) (by kernel_rfl) (fun _ _ _ h => h) (by kernel_rfl) (fun w => by kernel_rfl) ?_
    refine rd_skip 3 80 rfl rfl (by kernel_rfl) (by kernel_rfl) (by kernel_rfl) (fun _ _ _ h => h) (by kernel_rfl) ?_
    refine rd_skip 4 81 rfl rfl (by kernel_rfl) (by kernel_rfl) (by kernel_rfl) (fun _ _ _ h => h) (by kernel_rfl) ?_
    refine rd_skip 5 82 rfl rfl (by kernel_rfl) (by kernel_rfl) (by kernel_rfl) (fun _ _ _ h => h) (by kernel_rfl) ?_
    refine rd_skip 6 83 rfl rfl (by kernel_rfl) (by kernel_rfl) (by kernel_rfl) (fun _ _ _ h => h) (by kernel_rfl) ?_
    refine rd_skip 7 84 rfl rfl (by kernel_rfl) (by kernel_rfl) (by kernel_rfl) (fun _ _ _ h => h) (by kernel_rfl) ?_
    refine rd_skip 8 85 rfl rfl (by kernel_rfl) (by kernel_rfl) (by kernel_rfl) (fun _ _ _ h => h) (by kernel_rfl) ?_
    refine rd_take 9 86 (.bool true) rfl rfl (by kernel_rfl) (by kernel_rfl) (by kernel_rfl) (fun _ _ _ h => h) (by kernel_rfl) (fun w => by kernel_rfl) ?_
    refine rd_take 10 87 (.bool true) rfl rfl (by kernel_rfl) (by kernel_rfl) (by kernel_rfl) (fun _ _ _ h => h) (by kernel_rfl) (fun w => by kernel_rfl) ?_
    refine rd_take 11 88 (.bool true) rfl rfl (by kernel_rfl) (by kernel_rfl) (by kernel_rfl) (fun _ _ _ h => h) (by kernel_rfl) (fun w => by kernel_rfl) ?_
    refine rd_take 12 89 (.bool false) rfl rfl (by kernel_rfl) (by kernel_rfl) (by kernel_rfl) (fun _ _ _ h => h) (by kernel_rfl) (fun w => by kernel_rfl) ?_
    refine rd_take 13 90 (.bool false) rfl rfl (by kernel_rfl) (by kernel_rfl) (by kernel_rfl) (fun _ _ _ h => h) (by kernel_rfl) (fun w => by kernel_rfl) ?_
    refine rd_take 14 91 (.int .u64 v) rfl rfl (by kernel_rfl) (by kernel_rfl) (by kernel_rfl) (fun _ _ _ h => h) (by kernel_rfl) (fun w => by kernel_rfl) ?_
    refine rd_take 16 93 (.string s) rfl rfl (by kernel_rfl) (by kernel_rfl) (by kernel_rfl) (fun _ _ _ h => h) (by kernel_rfl) (fun w => by kernel_rfl) ?_
    refine wpAny_ready (rs := [15]) (by kernel_rfl) (by simp) ?_
    refine rd_call 15 92 rfl rfl (by kernel_rfl) 26 #[.int .u64 v] (by kernel_rfl) (print_R v HV.out _) ?_ ?_
    · rintro v wc1 ⟨rfl, rb1⟩
      refine rd_take 17 94 (.bool true) rfl rfl (by kernel_rfl) (by kernel_rfl) (by kernel_rfl) (fun _ _ _ h => h) (by kernel_rfl) (fun w => rd_eqs (s1 := (strOfNums (pr v.toNat))) (s2 := s) rfl (by kernel_rfl) (by kernel_rfl) (by rw [HVB.out]; simp)) ?_
      refine rd_take 18 95 (.bool true) rfl rfl (by kernel_rfl) (by kernel_rfl) (by kernel_rfl) (fun _ _ _ h => h) (by kernel_rfl) (fun w => by kernel_rfl) ?_
      refine rd_take 19 96 (.bool true) rfl rfl (by kernel_rfl) (by kernel_rfl) (by kernel_rfl) (fun _ _ _ h => h) (by kernel_rfl) (fun w => by kernel_rfl) ?_
      refine rd_take 20 97 (.bool true) rfl rfl (by kernel_rfl) (by kernel_rfl) (by kernel_rfl) (fun _ _ _ h => h) (by kernel_rfl) (fun w => by kernel_rfl) ?_
      refine rd_take 21 98 (.bool false) rfl rfl (by kernel_rfl) (by kernel_rfl) (by kernel_rfl) (fun _ _ _ h => h) (by kernel_rfl) (fun w => by kernel_rfl) ?_
      refine rd_take 22 99 (.bool true) rfl rfl (by kernel_rfl) (by kernel_rfl) (by kernel_rfl) (fun _ _ _ h => h) (by kernel_rfl) (fun w => by kernel_rfl) ?_
      refine rd_take 23 100 (.bool true) rfl rfl (by kernel_rfl) (by kernel_rfl) (by kernel_rfl) (fun _ _ _ h => h) (by kernel_rfl) (fun w => by kernel_rfl) ?_
      refine rd_skip 24 101 rfl rfl (by kernel_rfl) (by kernel_rfl) (by kernel_rfl) (fun _ _ _ h => h) (by kernel_rfl) ?_
      refine rd_skip 25 102 rfl rfl (by kernel_rfl) (by kernel_rfl) (by kernel_rfl) (fun _ _ _ h => h) (by kernel_rfl) ?_
      refine rd_skip 26 103 rfl rfl (by kernel_rfl) (by kernel_rfl) (by kernel_rfl) (fun _ _ _ h => h) (by kernel_rfl) ?_
      refine rd_skip 27 104 rfl rfl (by kernel_rfl) (by kernel_rfl) (by kernel_rfl) (fun _ _ _ h => h) (by kernel_rfl) ?_
      refine rd_skip 28 105 rfl rfl (by kernel_rfl) (by kernel_rfl) (by kernel_rfl) (fun _ _ _ h => h) (by kernel_rfl) ?_
      refine rd_skip 29 106 rfl rfl (by kernel_rfl) (by kernel_rfl) (by kernel_rfl) (fun _ _ _ h => h) (by kernel_rfl) ?_
      refine rd_take 30 107 (.bool true) rfl rfl (by kernel_rfl) (by kernel_rfl) (by kernel_rfl) (fun _ _ _ h => h) (by kernel_rfl) (fun w => by kernel_rfl) ?_
      refine rd_take 31 108 (.bool true) rfl rfl (by kernel_rfl) (by kernel_rfl) (by kernel_rfl) (fun _ _ _ h => h) (by kernel_rfl) (fun w => by kernel_rfl) ?_
      refine rd_take 32 6 (.bool true) rfl rfl (by kernel_rfl) (by kernel_rfl) (by kernel_rfl) (fun _ _ _ h => h) (by kernel_rfl) (fun w => by kernel_rfl) ?_
      refine wpAny_done (by kernel_rfl) ?_ _
      exact hk _ _ (end_ret 6 rfl (by kernel_rfl) (by kernel_rfl) (below_go HBW.out.drew rb1))
    exact AllReady.nil
  · have HV := Hid.mk (F8 rfl).1
    have HVB := Hid.mk (F8 rfl).2
    have HT := Hid.mk (F9 rfl).1
    have HTB := Hid.mk (F9 rfl).2
    clear F7 F8 F9
    go_wp2_with fail
    rename_i K hk
    refine wp_region_any (by kernel_rfl) ?_
    try (change wpAny _ _ _ _ _ _ _ (World.drew _))
    refine rd_take 0 77 (.bool false) rfl rfl (by kernel_rfl) (by kernel_rfl) (by kernel_rfl) (fun _ _ _ h => h) (by kernel_rfl) (fun w => by kernel_rfl) ?_
    refine rd_take 1 78 (.bool true) rfl rfl (by kernel_rfl) (by kernel_rfl) (by kernel_rfl) (fun _ _ _ h => h) (by kernel_rfl) (fun w => by kernel_rfl) ?_
    refine rd_take 2 79 (.bool true) rfl rfl (by kernel_rfl) (by kernel_rfl) (by kernel_rfl) (fun _ _ _ h => h) (by kernel_rfl) (fun w => by kernel_rfl) ?_
    refine rd_skip 3 80 rfl rfl (by kernel_rfl) (by kernel_rfl) (by kernel_rfl) (fun _ _ _ h => h) (by kernel_rfl) ?_
    refine rd_skip 4 81 rfl rfl (by kernel_rfl) (by kernel_rfl) (by kernel_rfl) (fun _ _ _ h => h) (by kernel_rfl) ?_
    refine rd_skip 5 82 rfl rfl (by kernel_rfl) (by kernel_rfl) (by kernel_rfl) (fun _ _ _ h => h) (by kernel_rfl) ?_
    refine rd_skip 6 83 rfl rfl (by kernel_rfl) (by kernel_rfl) (by kernel_rfl) (fun _ _ _ h => h) (by kernel_rfl) ?_
    refine rd_skip 7 84 rfl rfl (by kernel_rfl) (by kernel_rfl) (by kernel_rfl) (fun _ _ _ h => h) (by kernel_rfl) ?_
    refine rd_skip 8 85 rfl rfl (by kernel_rfl) (by kernel_rfl) (by kernel_rfl) (fun _ _ _ h => h) (by kernel_rfl) ?_
    refine rd_take 9 86 (.bool true) rfl rfl (by kernel_rfl) (by kernel_rfl) (by kernel_rfl) (fun _ _ _ h => h) (by kernel_rfl) (fun w => by kernel_rfl) ?_
    refine rd_take 10 87 (.bool true) rfl rfl (by kernel_rfl) (by kernel_rfl) (by kernel_rfl) (fun _ _ _ h => h) (by kernel_rfl) (fun w => by kernel_rfl) ?_
    refine rd_take 11 88 (.bool true) rfl rfl (by kernel_rfl) (by kernel_rfl) (by kernel_rfl) (fun _ _ _ h => h) (by kernel_rfl) (fun w => by kernel_rfl) ?_
    refine rd_take 12 89 (.bool false) rfl rfl (by kernel_rfl) (by kernel_rfl) (by kernel_rfl) (fun _ _ _ h => h) (by kernel_rfl) (fun w => by kernel_rfl) ?_
    refine rd_take 13 90 (.bool false) rfl rfl (by kernel_rfl) (by kernel_rfl) (by kernel_rfl) (fun _ _ _ h => h) (by kernel_rfl) (fun w => by kernel_rfl) ?_
    refine rd_take 14 91 (.int .u64 v) rfl rfl (by kernel_rfl) (by kernel_rfl) (by kernel_rfl) (fun _ _ _ h => h) (by kernel_rfl) (fun w => by kernel_rfl) ?_
    refine rd_take 16 93 (.string s) rfl rfl (by kernel_rfl) (by kernel_rfl) (by kernel_rfl) (fun _ _ _ h => h) (by kernel_rfl) (fun w => by kernel_rfl) ?_
    refine wpAny_ready (rs := [15]) (by kernel_rfl) (by simp) ?_
    refine rd_call 15 92 rfl rfl (by kernel_rfl) 26 #[.int .u64 v] (by kernel_rfl) (print_R v HV.out _) ?_ ?_
    · rintro v wc1 ⟨rfl, rb1⟩
      refine rd_take 17 94 (.bool true) rfl rfl (by kernel_rfl) (by kernel_rfl) (by kernel_rfl) (fun _ _ _ h => h) (by kernel_rfl) (fun w => rd_eqs (s1 := (strOfNums (pr v.toNat))) (s2 := s) rfl (by kernel_rfl) (by kernel_rfl) (by rw [HVB.out]; simp)) ?_
      refine rd_take 18 95 (.bool true) rfl rfl (by kernel_rfl) (by kernel_rfl) (by kernel_rfl) (fun _ _ _ h => h) (by kernel_rfl) (fun w => by kernel_rfl) ?_
      refine rd_take 19 96 (.bool true) rfl rfl (by kernel_rfl) (by kernel_rfl) (by kernel_rfl) (fun _ _ _ h => h) (by kernel_rfl) (fun w => by kernel_rfl) ?_
      refine rd_take 20 97 (.bool true) rfl rfl (by kernel_rfl) (by kernel_rfl) (by kernel_rfl) (fun _ _ _ h => h) (by kernel_rfl) (fun w => by kernel_rfl) ?_
      refine rd_take 21 98 (.bool true) rfl rfl (by kernel_rfl) (by kernel_rfl) (by kernel_rfl) (fun _ _ _ h => h) (by kernel_rfl) (fun w => by kernel_rfl) ?_
      refine rd_take 22 99 (.bool false) rfl rfl (by kernel_rfl) (by kernel_rfl) (by kernel_rfl) (fun _ _ _ h => h) (by kernel_rfl) (fun w => by kernel_rfl) ?_
      refine rd_take 23 100 (.bool false) rfl rfl (by kernel_rfl) (by kernel_rfl) (by kernel_rfl) (fun _ _ _ h => h) (by kernel_rfl) (fun w => by kernel_rfl) ?_
      refine rd_take 24 101 (.int .u64 t) rfl rfl (by kernel_rfl) (by kernel_rfl) (by kernel_rfl) (fun _ _ _ h => h) (by kernel_rfl) (fun w => by kernel_rfl) ?_
      refine rd_take 27 104 (.slice a n c) rfl rfl (by kernel_rfl) (by kernel_rfl) (by kernel_rfl) (fun _ _ _ h => h) (by kernel_rfl) (fun w => by kernel_rfl) ?_
      refine wpAny_ready (rs := [25, 28]) (by kernel_rfl) (by simp) ?_
      refine rd_call 25 102 rfl rfl (by kernel_rfl) 22 #[.int .u64 t] (by kernel_rfl) (key_R t HT.out _) ?_ ?_
      · rintro v wc2 ⟨rg2, rfl, ra2, rb2⟩
        refine wpAny_ready (rs := [26, 28]) (by kernel_rfl) (by simp) ?_
        refine rd_run 26 103 (.string (strOfNums (bek 8 t.toNat))) rfl rfl (by kernel_rfl) (rd_conv rfl (by kernel_rfl) (conv_any (Ag.i (ra2)))) ?_ ?_
        ·
         refine wpAny_ready (rs := [28]) (by kernel_rfl) (by simp) ?_
         refine rd_run 28 105 (.string (strOfNums b)) rfl rfl (by kernel_rfl) (rd_conv rfl (by kernel_rfl) (conv_any (Ag.i (Ag.at (Ag.at (HAG.out.drew) rb1) rb2)))) ?_ ?_
         ·
          refine rd_take 29 106 (.bool true) rfl rfl (by kernel_rfl) (by kernel_rfl) (by kernel_rfl) (fun _ _ _ h => h) (by kernel_rfl) (fun w => rd_eqs (s1 := (strOfNums (bek 8 t.toNat))) (s2 := (strOfNums b)) rfl (by kernel_rfl) (by kernel_rfl) (by rw [HTB.out]; simp)) ?_
          refine rd_take 30 107 (.bool true) rfl rfl (by kernel_rfl) (by kernel_rfl) (by kernel_rfl) (fun _ _ _ h => h) (by kernel_rfl) (fun w => by kernel_rfl) ?_
          refine rd_take 31 108 (.bool true) rfl rfl (by kernel_rfl) (by kernel_rfl) (by kernel_rfl) (fun _ _ _ h => h) (by kernel_rfl) (fun w => by kernel_rfl) ?_
          refine rd_take 32 6 (.bool true) rfl rfl (by kernel_rfl) (by kernel_rfl) (by kernel_rfl) (fun _ _ _ h => h) (by kernel_rfl) (fun w => by kernel_rfl) ?_
          refine wpAny_done (by kernel_rfl) ?_ _
          exact hk _ _ (end_ret 6 rfl (by kernel_rfl) (by kernel_rfl) (below_go (below_go HBW.out.drew rb1) rb2))
         exact AllReady.nil
        refine rd_run 28 105 (.string (strOfNums b)) rfl rfl (by kernel_rfl) (rd_conv rfl (by kernel_rfl) (conv_any (Ag.i (Ag.at (Ag.at (HAG.out.drew) rb1) rb2)))) ?_ ?_
        ·
         refine wpAny_ready (rs := [26]) (by kernel_rfl) (by simp) ?_
         refine rd_run 26 103 (.string (strOfNums (bek 8 t.toNat))) rfl rfl (by kernel_rfl) (rd_conv rfl (by kernel_rfl) (conv_any (Ag.i (ra2)))) ?_ ?_
         ·
          refine rd_take 29 106 (.bool true) rfl rfl (by kernel_rfl) (by kernel_rfl) (by kernel_rfl) (fun _ _ _ h => h) (by kernel_rfl) (fun w => rd_eqs (s1 := (strOfNums (bek 8 t.toNat))) (s2 := (strOfNums b)) rfl (by kernel_rfl) (by kernel_rfl) (by rw [HTB.out]; simp)) ?_
          refine rd_take 30 107 (.bool true) rfl rfl (by kernel_rfl) (by kernel_rfl) (by kernel_rfl) (fun _ _ _ h => h) (by kernel_rfl) (fun w => by kernel_rfl) ?_
          refine rd_take 31 108 (.bool true) rfl rfl (by kernel_rfl) (by kernel_rfl) (by kernel_rfl) (fun _ _ _ h => h) (by kernel_rfl) (fun w => by kernel_rfl) ?_
          refine rd_take 32 6 (.bool true) rfl rfl (by kernel_rfl) (by kernel_rfl) (by kernel_rfl) (fun _ _ _ h => h) (by kernel_rfl) (fun w => by kernel_rfl) ?_
          refine wpAny_done (by kernel_rfl) ?_ _
          exact hk _ _ (end_ret 6 rfl (by kernel_rfl) (by kernel_rfl) (below_go (below_go HBW.out.drew rb1) rb2))
         exact AllReady.nil
        exact AllReady.nil
      refine rd_run 28 105 (.string (strOfNums b)) rfl rfl (by kernel_rfl) (rd_conv rfl (by kernel_rfl) (conv_any (Ag.i (Ag.at (HAG.out.drew) rb1)))) ?_ ?_
      ·
       refine wpAny_ready (rs := [25]) (by kernel_rfl) (by simp) ?_
       refine rd_call 25 102 rfl rfl (by kernel_rfl) 22 #[.int .u64 t] (by kernel_rfl) (key_R t HT.out _) ?_ ?_
       · rintro v wc3 ⟨rg3, rfl, ra3, rb3⟩
         refine wpAny_ready (rs := [26]) (by kernel_rfl) (by simp) ?_
         refine rd_run 26 103 (.string (strOfNums (bek 8 t.toNat))) rfl rfl (by kernel_rfl) (rd_conv rfl (by kernel_rfl) (conv_any (Ag.i (ra3)))) ?_ ?_
         ·
          refine rd_take 29 106 (.bool true) rfl rfl (by kernel_rfl) (by kernel_rfl) (by kernel_rfl) (fun _ _ _ h => h) (by kernel_rfl) (fun w => rd_eqs (s1 := (strOfNums (bek 8 t.toNat))) (s2 := (strOfNums b)) rfl (by kernel_rfl) (by kernel_rfl) (by rw [HTB.out]; simp)) ?_
          refine rd_take 30 107 (.bool true) rfl rfl (by kernel_rfl) (by kernel_rfl) (by kernel_rfl) (fun _ _ _ h => h) (by kernel_rfl) (fun w => by kernel_rfl) ?_
          refine rd_take 31 108 (.bool true) rfl rfl (by kernel_rfl) (by kernel_rfl) (by kernel_rfl) (fun _ _ _ h => h) (by kernel_rfl) (fun w => by kernel_rfl) ?_
          refine rd_take 32 6 (.bool true) rfl rfl (by kernel_rfl) (by kernel_rfl) (by kernel_rfl) (fun _ _ _ h => h) (by kernel_rfl) (fun w => by kernel_rfl) ?_
          refine wpAny_done (by kernel_rfl) ?_ _
          exact hk _ _ (end_ret 6 rfl (by kernel_rfl) (by kernel_rfl) (below_go (below_go HBW.out.drew rb1) rb3))
         exact AllReady.nil
       exact AllReady.nil
      exact AllReady.nil
    exact AllReady.nil
  · have HU := Hid.mk (F7 rfl).1
    have HUB := Hid.mk (F7 rfl).2
    clear F7 F8 F9
    go_wp2_with fail
    rename_i K hk
    refine wp_region_any (by kernel_rfl) ?_
    try (change wpAny _ _ _ _ _ _ _ (World.drew _))
    refine rd_take 0 77 (.bool true) rfl rfl (by kernel_rfl) (by kernel_rfl) (by kernel_rfl) (fun _ _ _ h => h) (by kernel_rfl) (fun w => by kernel_rfl) ?_
    refine rd_take 1 78 (.bool false) rfl rfl (by kernel_rfl) (by kernel_rfl) (by kernel_rfl) (fun _ _ _ h => h) (by kernel_rfl) (fun w => by kernel_rfl) ?_
    refine rd_take 2 79 (.bool false) rfl rfl (by kernel_rfl) (by kernel_rfl) (by kernel_rfl) (fun _ _ _ h => h) (by kernel_rfl) (fun w => by kernel_rfl) ?_
    refine rd_take 3 80 (.int .u64 u) rfl rfl (by kernel_rfl) (by kernel_rfl) (by kernel_rfl) (fun _ _ _ h => h) (by kernel_rfl) (fun w => by kernel_rfl) ?_
    refine rd_take 6 83 (.slice a n c) rfl rfl (by kernel_rfl) (by kernel_rfl) (by kernel_rfl) (fun _ _ _ h => h) (by kernel_rfl) (fun w => by kernel_rfl) ?_
    refine wpAny_ready (rs := [4, 7]) (by kernel_rfl) (by simp) ?_
    refine rd_call 4 81 rfl rfl (by kernel_rfl) 17 #[.int .u64 u] (by kernel_rfl) (bytes_R u HU.out _) ?_ ?_
    · rintro v wc1 ⟨rg1, rfl, ra1, rb1⟩
      refine wpAny_ready (rs := [5, 7]) (by kernel_rfl) (by simp) ?_
      refine rd_run 5 82 (.string (strOfNums (be u.toNat))) rfl rfl (by kernel_rfl) (rd_conv rfl (by kernel_rfl) (conv_any (Ag.i (ra1)))) ?_ ?_
      ·
       refine wpAny_ready (rs := [7]) (by kernel_rfl) (by simp) ?_
       refine rd_run 7 84 (.string (strOfNums b)) rfl rfl (by kernel_rfl) (rd_conv rfl (by kernel_rfl) (conv_any (Ag.i (Ag.at (HAG.out.drew) rb1)))) ?_ ?_
       ·
        refine rd_take 8 85 (.bool true) rfl rfl (by kernel_rfl) (by kernel_rfl) (by kernel_rfl) (fun _ _ _ h => h) (by kernel_rfl) (fun w => rd_eqs (s1 := (strOfNums (be u.toNat))) (s2 := (strOfNums b)) rfl (by kernel_rfl) (by kernel_rfl) (by rw [HUB.out]; simp)) ?_
        refine rd_take 9 86 (.bool true) rfl rfl (by kernel_rfl) (by kernel_rfl) (by kernel_rfl) (fun _ _ _ h => h) (by kernel_rfl) (fun w => by kernel_rfl) ?_
        refine rd_take 10 87 (.bool true) rfl rfl (by kernel_rfl) (by kernel_rfl) (by kernel_rfl) (fun _ _ _ h => h) (by kernel_rfl) (fun w => by kernel_rfl) ?_
        refine rd_take 11 88 (.bool false) rfl rfl (by kernel_rfl) (by kernel_rfl) (by kernel_rfl) (fun _ _ _ h => h) (by kernel_rfl) (fun w => by kernel_rfl) ?_
        refine rd_take 12 89 (.bool true) rfl rfl (by kernel_rfl) (by kernel_rfl) (by kernel_rfl) (fun _ _ _ h => h) (by kernel_rfl) (fun w => by kernel_rfl) ?_
        refine rd_take 13 90 (.bool true) rfl rfl (by kernel_rfl) (by kernel_rfl) (by kernel_rfl) (fun _ _ _ h => h) (by kernel_rfl) (fun w => by kernel_rfl) ?_
        refine rd_skip 14 91 rfl rfl (by kernel_rfl) (by kernel_rfl) (by kernel_rfl) (fun _ _ _ h => h) (by kernel_rfl) ?_
        refine rd_skip 15 92 rfl rfl (by kernel_rfl) (by kernel_rfl) (by kernel_rfl) (fun _ _ _ h => h) (by kernel_rfl) ?_
        refine rd_skip 16 93 rfl rfl (by kernel_rfl) (by kernel_rfl) (by kernel_rfl) (fun _ _ _ h => h) (by kernel_rfl) ?_
        refine rd_skip 17 94 rfl rfl (by kernel_rfl) (by kernel_rfl) (by kernel_rfl) (fun _ _ _ h => h) (by kernel_rfl) ?_
        refine rd_take 18 95 (.bool true) rfl rfl (by kernel_rfl) (by kernel_rfl) (by kernel_rfl) (fun _ _ _ h => h) (by kernel_rfl) (fun w => by kernel_rfl) ?_
        refine rd_take 19 96 (.bool true) rfl rfl (by kernel_rfl) (by kernel_rfl) (by kernel_rfl) (fun _ _ _ h => h) (by kernel_rfl) (fun w => by kernel_rfl) ?_
        refine rd_take 20 97 (.bool true) rfl rfl (by kernel_rfl) (by kernel_rfl) (by kernel_rfl) (fun _ _ _ h => h) (by kernel_rfl) (fun w => by kernel_rfl) ?_
        refine rd_take 21 98 (.bool false) rfl rfl (by kernel_rfl) (by kernel_rfl) (by kernel_rfl) (fun _ _ _ h => h) (by kernel_rfl) (fun w => by kernel_rfl) ?_
        refine rd_take 22 99 (.bool true) rfl rfl (by kernel_rfl) (by kernel_rfl) (by kernel_rfl) (fun _ _ _ h => h) (by kernel_rfl) (fun w => by kernel_rfl) ?_
        refine rd_take 23 100 (.bool true) rfl rfl (by kernel_rfl) (by kernel_rfl) (by kernel_rfl) (fun _ _ _ h => h) (by kernel_rfl) (fun w => by kernel_rfl) ?_
        refine rd_skip 24 101 rfl rfl (by kernel_rfl) (by kernel_rfl) (by kernel_rfl) (fun _ _ _ h => h) (by kernel_rfl) ?_
        refine rd_skip 25 102 rfl rfl (by kernel_rfl) (by kernel_rfl) (by kernel_rfl) (fun _ _ _ h => h) (by kernel_rfl) ?_
        refine rd_skip 26 103 rfl rfl (by kernel_rfl) (by kernel_rfl) (by kernel_rfl) (fun _ _ _ h => h) (by kernel_rfl) ?_
        refine rd_skip 27 104 rfl rfl (by kernel_rfl) (by kernel_rfl) (by kernel_rfl) (fun _ _ _ h => h) (by kernel_rfl) ?_
        refine rd_skip 28 105 rfl rfl (by kernel_rfl) (by kernel_rfl) (by kernel_rfl) (fun _ _ _ h => h) (by kernel_rfl) ?_
        refine rd_skip 29 106 rfl rfl (by kernel_rfl) (by kernel_rfl) (by kernel_rfl) (fun _ _ _ h => h) (by kernel_rfl) ?_
        refine rd_take 30 107 (.bool true) rfl rfl (by kernel_rfl) (by kernel_rfl) (by kernel_rfl) (fun _ _ _ h => h) (by kernel_rfl) (fun w => by kernel_rfl) ?_
        refine rd_take 31 108 (.bool true) rfl rfl (by kernel_rfl) (by kernel_rfl) (by kernel_rfl) (fun _ _ _ h => h) (by kernel_rfl) (fun w => by kernel_rfl) ?_
        refine rd_take 32 6 (.bool true) rfl rfl (by kernel_rfl) (by kernel_rfl) (by kernel_rfl) (fun _ _ _ h => h) (by kernel_rfl) (fun w => by kernel_rfl) ?_
        refine wpAny_done (by kernel_rfl) ?_ _
        exact hk _ _ (end_ret 6 rfl (by kernel_rfl) (by kernel_rfl) (below_go HBW.out.drew rb1))
       exact AllReady.nil
      refine rd_run 7 84 (.string (strOfNums b)) rfl rfl (by kernel_rfl) (rd_conv rfl (by kernel_rfl) (conv_any (Ag.i (Ag.at (HAG.out.drew) rb1)))) ?_ ?_
      ·
       refine wpAny_ready (rs := [5]) (by kernel_rfl) (by simp) ?_
       refine rd_run 5 82 (.string (strOfNums (be u.toNat))) rfl rfl (by kernel_rfl) (rd_conv rfl (by kernel_rfl) (conv_any (Ag.i (ra1)))) ?_ ?_
       ·
        refine rd_take 8 85 (.bool true) rfl rfl (by kernel_rfl) (by kernel_rfl) (by kernel_rfl) (fun _ _ _ h => h) (by kernel_rfl) (fun w => rd_eqs (s1 := (strOfNums (be u.toNat))) (s2 := (strOfNums b)) rfl (by kernel_rfl) (by kernel_rfl) (by rw [HUB.out]; simp)) ?_
        refine rd_take 9 86 (.bool true) rfl rfl (by kernel_rfl) (by kernel_rfl) (by kernel_rfl) (fun _ _ _ h => h) (by kernel_rfl) (fun w => by kernel_rfl) ?_
        refine rd_take 10 87 (.bool true) rfl rfl (by kernel_rfl) (by kernel_rfl) (by kernel_rfl) (fun _ _ _ h => h) (by kernel_rfl) (fun w => by kernel_rfl) ?_
        refine rd_take 11 88 (.bool false) rfl rfl (by kernel_rfl) (by kernel_rfl) (by kernel_rfl) (fun _ _ _ h => h) (by kernel_rfl) (fun w => by kernel_rfl) ?_
        refine rd_take 12 89 (.bool true) rfl rfl (by kernel_rfl) (by kernel_rfl) (by kernel_rfl) (fun _ _ _ h => h) (by kernel_rfl) (fun w => by kernel_rfl) ?_
        refine rd_take 13 90 (.bool true) rfl rfl (by kernel_rfl) (by kernel_rfl) (by kernel_rfl) (fun _ _ _ h => h) (by kernel_rfl) (fun w => by kernel_rfl) ?_
        refine rd_skip 14 91 rfl rfl (by kernel_rfl) (by kernel_rfl) (by kernel_rfl) (fun _ _ _ h => h) (by kernel_rfl) ?_
        refine rd_skip 15 92 rfl rfl (by kernel_rfl) (by kernel_rfl) (by kernel_rfl) (fun _ _ _ h => h) (by kernel_rfl) ?_
        refine rd_skip 16 93 rfl rfl (by kernel_rfl) (by kernel_rfl) (by kernel_rfl) (fun _ _ _ h => h) (by kernel_rfl) ?_
        refine rd_skip 17 94 rfl rfl (by kernel_rfl) (by kernel_rfl) (by kernel_rfl) (fun _ _ _ h => h) (by kernel_rfl) ?_
        refine rd_take 18 95 (.bool true) rfl rfl (by kernel_rfl) (by kernel_rfl) (by kernel_rfl) (fun _ _ _ h => h) (by kernel_rfl) (fun w => by kernel_rfl) ?_
        refine rd_take 19 96 (.bool true) rfl rfl (by kernel_rfl) (by kernel_rfl) (by kernel_rfl) (fun _ _ _ h => h) (by kernel_rfl) (fun w => by kernel_rfl) ?_
        refine rd_take 20 97 (.bool true) rfl rfl (by kernel_rfl) (by kernel_rfl) (by kernel_rfl) (fun _ _ _ h => h) (by kernel_rfl) (fun w => by kernel_rfl) ?_
        refine rd_take 21 98 (.bool false) rfl rfl (by kernel_rfl) (by kernel_rfl) (by kernel_rfl) (fun _ _ _ h => h) (by kernel_rfl) (fun w => by kernel_rfl) ?_
        refine rd_take 22 99 (.bool true) rfl rfl (by kernel_rfl) (by kernel_rfl) (by kernel_rfl) (fun _ _ _ h => h) (by kernel_rfl) (fun w => by kernel_rfl) ?_
        refine rd_take 23 100 (.bool true) rfl rfl (by kernel_rfl) (by kernel_rfl) (by kernel_rfl) (fun _ _ _ h => h) (by kernel_rfl) (fun w => by kernel_rfl) ?_
        refine rd_skip 24 101 rfl rfl (by kernel_rfl) (by kernel_rfl) (by kernel_rfl) (fun _ _ _ h => h) (by kernel_rfl) ?_
        refine rd_skip 25 102 rfl rfl (by kernel_rfl) (by kernel_rfl) (by kernel_rfl) (fun _ _ _ h => h) (by kernel_rfl) ?_
        refine rd_skip 26 103 rfl rfl (by kernel_rfl) (by kernel_rfl) (by kernel_rfl) (fun _ _ _ h => h) (by kernel_rfl) ?_
        refine rd_skip 27 104 rfl rfl (by kernel_rfl) (by kernel_rfl) (by kernel_rfl) (fun _ _ _ h => h) (by kernel_rfl) ?_
        refine rd_skip 28 105 rfl rfl (by kernel_rfl) (by kernel_rfl) (by kernel_rfl) (fun _ _ _ h => h) (by kernel_rfl) ?_
        refine rd_skip 29 106 rfl rfl (by kernel_rfl) (by kernel_rfl) (by kernel_rfl) (fun _ _ _ h => h) (by kernel_rfl) ?_
        refine rd_take 30 107 (.bool true) rfl rfl (by kernel_rfl) (by kernel_rfl) (by kernel_rfl) (fun _ _ _ h => h) (by kernel_rfl) (fun w => by kernel_rfl) ?_
        refine rd_take 31 108 (.bool true) rfl rfl (by kernel_rfl) (by kernel_rfl) (by kernel_rfl) (fun _ _ _ h => h) (by kernel_rfl) (fun w => by kernel_rfl) ?_
        refine rd_take 32 6 (.bool true) rfl rfl (by kernel_rfl) (by kernel_rfl) (by kernel_rfl) (fun _ _ _ h => h) (by kernel_rfl) (fun w => by kernel_rfl) ?_
        refine wpAny_done (by kernel_rfl) ?_ _
        exact hk _ _ (end_ret 6 rfl (by kernel_rfl) (by kernel_rfl) (below_go HBW.out.drew rb1))
       exact AllReady.nil
      exact AllReady.nil
    refine rd_run 7 84 (.string (strOfNums b)) rfl rfl (by kernel_rfl) (rd_conv rfl (by kernel_rfl) (conv_any (Ag.i (HAG.out.drew)))) ?_ ?_
    ·
     refine wpAny_ready (rs := [4]) (by kernel_rfl) (by simp) ?_
     refine rd_call 4 81 rfl rfl (by kernel_rfl) 17 #[.int .u64 u] (by kernel_rfl) (bytes_R u HU.out _) ?_ ?_
     · rintro v wc2 ⟨rg2, rfl, ra2, rb2⟩
       refine wpAny_ready (rs := [5]) (by kernel_rfl) (by simp) ?_
       refine rd_run 5 82 (.string (strOfNums (be u.toNat))) rfl rfl (by kernel_rfl) (rd_conv rfl (by kernel_rfl) (conv_any (Ag.i (ra2)))) ?_ ?_
       ·
        refine rd_take 8 85 (.bool true) rfl rfl (by kernel_rfl) (by kernel_rfl) (by kernel_rfl) (fun _ _ _ h => h) (by kernel_rfl) (fun w => rd_eqs (s1 := (strOfNums (be u.toNat))) (s2 := (strOfNums b)) rfl (by kernel_rfl) (by kernel_rfl) (by rw [HUB.out]; simp)) ?_
        refine rd_take 9 86 (.bool true) rfl rfl (by kernel_rfl) (by kernel_rfl) (by kernel_rfl) (fun _ _ _ h => h) (by kernel_rfl) (fun w => by kernel_rfl) ?_
        refine rd_take 10 87 (.bool true) rfl rfl (by kernel_rfl) (by kernel_rfl) (by kernel_rfl) (fun _ _ _ h => h) (by kernel_rfl) (fun w => by kernel_rfl) ?_
        refine rd_take 11 88 (.bool false) rfl rfl (by kernel_rfl) (by kernel_rfl) (by kernel_rfl) (fun _ _ _ h => h) (by kernel_rfl) (fun w => by kernel_rfl) ?_
        refine rd_take 12 89 (.bool true) rfl rfl (by kernel_rfl) (by kernel_rfl) (by kernel_rfl) (fun _ _ _ h => h) (by kernel_rfl) (fun w => by kernel_rfl) ?_
        refine rd_take 13 90 (.bool true) rfl rfl (by kernel_rfl) (by kernel_rfl) (by kernel_rfl) (fun _ _ _ h => h) (by kernel_rfl) (fun w => by kernel_rfl) ?_
        refine rd_skip 14 91 rfl rfl (by kernel_rfl) (by kernel_rfl) (by kernel_rfl) (fun _ _ _ h => h) (by kernel_rfl) ?_
        refine rd_skip 15 92 rfl rfl (by kernel_rfl) (by kernel_rfl) (by kernel_rfl) (fun _ _ _ h => h) (by kernel_rfl) ?_
        refine rd_skip 16 93 rfl rfl (by kernel_rfl) (by kernel_rfl) (by kernel_rfl) (fun _ _ _ h => h) (by kernel_rfl) ?_
        refine rd_skip 17 94 rfl rfl (by kernel_rfl) (by kernel_rfl) (by kernel_rfl) (fun _ _ _ h => h) (by kernel_rfl) ?_
        refine rd_take 18 95 (.bool true) rfl rfl (by kernel_rfl) (by kernel_rfl) (by kernel_rfl) (fun _ _ _ h => h) (by kernel_rfl) (fun w => by kernel_rfl) ?_
        refine rd_take 19 96 (.bool true) rfl rfl (by kernel_rfl) (by kernel_rfl) (by kernel_rfl) (fun _ _ _ h => h) (by kernel_rfl) (fun w => by kernel_rfl) ?_
        refine rd_take 20 97 (.bool true) rfl rfl (by kernel_rfl) (by kernel_rfl) (by kernel_rfl) (fun _ _ _ h => h) (by kernel_rfl) (fun w => by kernel_rfl) ?_
        refine rd_take 21 98 (.bool false) rfl rfl (by kernel_rfl) (by kernel_rfl) (by kernel_rfl) (fun _ _ _ h => h) (by kernel_rfl) (fun w => by kernel_rfl) ?_
        refine rd_take 22 99 (.bool true) rfl rfl (by kernel_rfl) (by kernel_rfl) (by kernel_rfl) (fun _ _ _ h => h) (by kernel_rfl) (fun w => by kernel_rfl) ?_
        refine rd_take 23 100 (.bool true) rfl rfl (by kernel_rfl) (by kernel_rfl) (by kernel_rfl) (fun _ _ _ h => h) (by kernel_rfl) (fun w => by kernel_rfl) ?_
        refine rd_skip 24 101 rfl rfl (by kernel_rfl) (by kernel_rfl) (by kernel_rfl) (fun _ _ _ h => h) (by kernel_rfl) ?_
        refine rd_skip 25 102 rfl rfl (by kernel_rfl) (by kernel_rfl) (by kernel_rfl) (fun _ _ _ h => h) (by kernel_rfl) ?_
        refine rd_skip 26 103 rfl rfl (by kernel_rfl) (by kernel_rfl) (by kernel_rfl) (fun _ _ _ h => h) (by kernel_rfl) ?_
        refine rd_skip 27 104 rfl rfl (by kernel_rfl) (by kernel_rfl) (by kernel_rfl) (fun _ _ _ h => h) (by kernel_rfl) ?_
        refine rd_skip 28 105 rfl rfl (by kernel_rfl) (by kernel_rfl) (by kernel_rfl) (fun _ _ _ h => h) (by kernel_rfl) ?_
        refine rd_skip 29 106 rfl rfl (by kernel_rfl) (by kernel_rfl) (by kernel_rfl) (fun _ _ _ h => h) (by kernel_rfl) ?_
        refine rd_take 30 107 (.bool true) rfl rfl (by kernel_rfl) (by kernel_rfl) (by kernel_rfl) (fun _ _ _ h => h) (by kernel_rfl) (fun w => by kernel_rfl) ?_
        refine rd_take 31 108 (.bool true) rfl rfl (by kernel_rfl) (by kernel_rfl) (by kernel_rfl) (fun _ _ _ h => h) (by kernel_rfl) (fun w => by kernel_rfl) ?_
        refine rd_take 32 6 (.bool true) rfl rfl (by kernel_rfl) (by kernel_rfl) (by kernel_rfl) (fun _ _ _ h => h) (by kernel_rfl) (fun w => by kernel_rfl) ?_
        refine wpAny_done (by kernel_rfl) ?_ _
        exact hk _ _ (end_ret 6 rfl (by kernel_rfl) (by kernel_rfl) (below_go HBW.out.drew rb2))
       exact AllReady.nil
     exact AllReady.nil
    exact AllReady.nil
  · have HU := Hid.mk (F7 rfl).1
    have HUB := Hid.mk (F7 rfl).2
    have HT := Hid.mk (F9 rfl).1
    have HTB := Hid.mk (F9 rfl).2
    clear F7 F8 F9
    go_wp2_with fail
    rename_i K hk
    refine wp_region_any (by kernel_rfl) ?_
    try (change wpAny _ _ _ _ _ _ _ (World.drew _))
    refine rd_take 0 77 (.bool true) rfl rfl (by kernel_rfl) (by kernel_rfl) (by kernel_rfl) (fun _ _ _ h => h) (by kernel_rfl) (fun w => by kernel_rfl) ?_
    refine rd_take 1 78 (.bool false) rfl rfl (by kernel_rfl) (by kernel_rfl) (by kernel_rfl) (fun _ _ _ h => h) (by kernel_rfl) (fun w => by kernel_rfl) ?_
    refine rd_take 2 79 (.bool false) rfl rfl (by kernel_rfl) (by kernel_rfl) (by kernel_rfl) (fun _ _ _ h => h) (by kernel_rfl) (fun w => by kernel_rfl) ?_
    refine rd_take 3 80 (.int .u64 u) rfl rfl (by kernel_rfl) (by kernel_rfl) (by kernel_rfl) (fun _ _ _ h => h) (by kernel_rfl) (fun w => by kernel_rfl) ?_
    refine rd_take 6 83 (.slice a n c) rfl rfl (by kernel_rfl) (by kernel_rfl) (by kernel_rfl) (fun _ _ _ h => h) (by kernel_rfl) (fun w => by kernel_rfl) ?_
    refine wpAny_ready (rs := [4, 7]) (by kernel_rfl) (by simp) ?_
    refine rd_call 4 81 rfl rfl (by kernel_rfl) 17 #[.int .u64 u] (by kernel_rfl) (bytes_R u HU.out _) ?_ ?_
    · rintro v wc1 ⟨rg1, rfl, ra1, rb1⟩
      refine wpAny_ready (rs := [5, 7]) (by kernel_rfl) (by simp) ?_
      refine rd_run 5 82 (.string (strOfNums (be u.toNat))) rfl rfl (by kernel_rfl) (rd_conv rfl (by kernel_rfl) (conv_any (Ag.i (ra1)))) ?_ ?_
      ·
       refine wpAny_ready (rs := [7]) (by kernel_rfl) (by simp) ?_
       refine rd_run 7 84 (.string (strOfNums b)) rfl rfl (by kernel_rfl) (rd_conv rfl (by kernel_rfl) (conv_any (Ag.i (Ag.at (HAG.out.drew) rb1)))) ?_ ?_
       ·
        refine rd_take 8 85 (.bool true) rfl rfl (by kernel_rfl) (by kernel_rfl) (by kernel_rfl) (fun _ _ _ h => h) (by kernel_rfl) (fun w => rd_eqs (s1 := (strOfNums (be u.toNat))) (s2 := (strOfNums b)) rfl (by kernel_rfl) (by kernel_rfl) (by rw [HUB.out]; simp)) ?_
        refine rd_take 9 86 (.bool true) rfl rfl (by kernel_rfl) (by kernel_rfl) (by kernel_rfl) (fun _ _ _ h => h) (by kernel_rfl) (fun w => by kernel_rfl) ?_
        refine rd_take 10 87 (.bool true) rfl rfl (by kernel_rfl) (by kernel_rfl) (by kernel_rfl) (fun _ _ _ h => h) (by kernel_rfl) (fun w => by kernel_rfl) ?_
        refine rd_take 11 88 (.bool false) rfl rfl (by kernel_rfl) (by kernel_rfl) (by kernel_rfl) (fun _ _ _ h => h) (by kernel_rfl) (fun w => by kernel_rfl) ?_
        refine rd_take 12 89 (.bool true) rfl rfl (by kernel_rfl) (by kernel_rfl) (by kernel_rfl) (fun _ _ _ h => h) (by kernel_rfl) (fun w => by kernel_rfl) ?_
        refine rd_take 13 90 (.bool true) rfl rfl (by kernel_rfl) (by kernel_rfl) (by kernel_rfl) (fun _ _ _ h => h) (by kernel_rfl) (fun w => by kernel_rfl) ?_
        refine rd_skip 14 91 rfl rfl (by kernel_rfl) (by kernel_rfl) (by kernel_rfl) (fun _ _ _ h => h) (by kernel_rfl) ?_
        refine rd_skip 15 92 rfl rfl (by kernel_rfl) (by kernel_rfl) (by kernel_rfl) (fun _ _ _ h => h) (by kernel_rfl) ?_
        refine rd_skip 16 93 rfl rfl (by kernel_rfl) (by kernel_rfl) (by kernel_rfl) (fun _ _ _ h => h) (by kernel_rfl) ?_
        refine rd_skip 17 94 rfl rfl (by kernel_rfl) (by kernel_rfl) (by kernel_rfl) (fun _ _ _ h => h) (by kernel_rfl) ?_
        refine rd_take 18 95 (.bool true) rfl rfl (by kernel_rfl) (by kernel_rfl) (by kernel_rfl) (fun _ _ _ h => h) (by kernel_rfl) (fun w => by kernel_rfl) ?_
        refine rd_take 19 96 (.bool true) rfl rfl (by kernel_rfl) (by kernel_rfl) (by kernel_rfl) (fun _ _ _ h => h) (by kernel_rfl) (fun w => by kernel_rfl) ?_
        refine rd_take 20 97 (.bool true) rfl rfl (by kernel_rfl) (by kernel_rfl) (by kernel_rfl) (fun _ _ _ h => h) (by kernel_rfl) (fun w => by kernel_rfl) ?_
        refine rd_take 21 98 (.bool true) rfl rfl (by kernel_rfl) (by kernel_rfl) (by kernel_rfl) (fun _ _ _ h => h) (by kernel_rfl) (fun w => by kernel_rfl) ?_
        refine rd_take 22 99 (.bool false) rfl rfl (by kernel_rfl) (by kernel_rfl) (by kernel_rfl) (fun _ _ _ h => h) (by kernel_rfl) (fun w => by kernel_rfl) ?_
        refine rd_take 23 100 (.bool false) rfl rfl (by kernel_rfl) (by kernel_rfl) (by kernel_rfl) (fun _ _ _ h => h) (by kernel_rfl) (fun w => by kernel_rfl) ?_
        refine rd_take 24 101 (.int .u64 t) rfl rfl (by kernel_rfl) (by kernel_rfl) (by kernel_rfl) (fun _ _ _ h => h) (by kernel_rfl) (fun w => by kernel_rfl) ?_
        refine rd_take 27 104 (.slice a n c) rfl rfl (by kernel_rfl) (by kernel_rfl) (by kernel_rfl) (fun _ _ _ h => h) (by kernel_rfl) (fun w => by kernel_rfl) ?_
        refine wpAny_ready (rs := [25, 28]) (by kernel_rfl) (by simp) ?_
        refine rd_call 25 102 rfl rfl (by kernel_rfl) 22 #[.int .u64 t] (by kernel_rfl) (key_R t HT.out _) ?_ ?_
        · rintro v wc2 ⟨rg2, rfl, ra2, rb2⟩
          refine wpAny_ready (rs := [26, 28]) (by kernel_rfl) (by simp) ?_
          refine rd_run 26 103 (.string (strOfNums (bek 8 t.toNat))) rfl rfl (by kernel_rfl) (rd_conv rfl (by kernel_rfl) (conv_any (Ag.i (ra2)))) ?_ ?_
          ·
           refine wpAny_ready (rs := [28]) (by kernel_rfl) (by simp) ?_
           refine rd_run 28 105 (.string (strOfNums b)) rfl rfl (by kernel_rfl) (rd_conv rfl (by kernel_rfl) (conv_any (Ag.i (Ag.at (Ag.at (HAG.out.drew) rb1) rb2)))) ?_ ?_
           ·
            refine rd_take 29 106 (.bool true) rfl rfl (by kernel_rfl) (by kernel_rfl) (by kernel_rfl) (fun _ _ _ h => h) (by kernel_rfl) (fun w => rd_eqs (s1 := (strOfNums (bek 8 t.toNat))) (s2 := (strOfNums b)) rfl (by kernel_rfl) (by kernel_rfl) (by rw [HTB.out]; simp)) ?_
            refine rd_take 30 107 (.bool true) rfl rfl (by kernel_rfl) (by kernel_rfl) (by kernel_rfl) (fun _ _ _ h => h) (by kernel_rfl) (fun w => by kernel_rfl) ?_
            refine rd_take 31 108 (.bool true) rfl rfl (by kernel_rfl) (by kernel_rfl) (by kernel_rfl) (fun _ _ _ h => h) (by kernel_rfl) (fun w => by kernel_rfl) ?_
            refine rd_take 32 6 (.bool true) rfl rfl (by kernel_rfl) (by kernel_rfl) (by kernel_rfl) (fun _ _ _ h => h) (by kernel_rfl) (fun w => by kernel_rfl) ?_
            refine wpAny_done (by kernel_rfl) ?_ _
            exact hk _ _ (end_ret 6 rfl (by kernel_rfl) (by kernel_rfl) (below_go (below_go HBW.out.drew rb1) rb2))
           exact AllReady.nil
          refine rd_run 28 105 (.string (strOfNums b)) rfl rfl (by kernel_rfl) (rd_conv rfl (by kernel_rfl) (conv_any (Ag.i (Ag.at (Ag.at (HAG.out.drew) rb1) rb2)))) ?_ ?_
          ·
           refine wpAny_ready (rs := [26]) (by kernel_rfl) (by simp) ?_
           refine rd_run 26 103 (.string (strOfNums (bek 8 t.toNat))) rfl rfl (by kernel_rfl) (rd_conv rfl (by kernel_rfl) (conv_any (Ag.i (ra2)))) ?_ ?_
           ·
            refine rd_take 29 106 (.bool true) rfl rfl (by kernel_rfl) (by kernel_rfl) (by kernel_rfl) (fun _ _ _ h => h) (by kernel_rfl) (fun w => rd_eqs (s1 := (strOfNums (bek 8 t.toNat))) (s2 := (strOfNums b)) rfl (by kernel_rfl) (by kernel_rfl) (by rw [HTB.out]; simp)) ?_
            refine rd_take 30 107 (.bool true) rfl rfl (by kernel_rfl) (by kernel_rfl) (by kernel_rfl) (fun _ _ _ h => h) (by kernel_rfl) (fun w => by kernel_rfl) ?_
            refine rd_take 31 108 (.bool true) rfl rfl (by kernel_rfl) (by kernel_rfl) (by kernel_rfl) (fun _ _ _ h => h) (by kernel_rfl) (fun w => by kernel_rfl) ?_
            refine rd_take 32 6 (.bool true) rfl rfl (by kernel_rfl) (by kernel_rfl) (by kernel_rfl) (fun _ _ _ h => h) (by kernel_rfl) (fun w => by kernel_rfl) ?_
            refine wpAny_done (by kernel_rfl) ?_ _
            exact hk _ _ (end_ret 6 rfl (by kernel_rfl) (by kernel_rfl) (below_go (below_go HBW.out.drew rb1) rb2))
           exact AllReady.nil
          exact AllReady.nil
        refine rd_run 28 105 (.string (strOfNums b)) rfl rfl (by kernel_rfl) (rd_conv rfl (by kernel_rfl) (conv_any (Ag.i (Ag.at (HAG.out.drew) rb1)))) ?_ ?_
        ·
         refine wpAny_ready (rs := [25]) (by kernel_rfl) (by simp) ?_
         refine rd_call 25 102 rfl rfl (by kernel_rfl) 22 #[.int .u64 t] (by kernel_rfl) (key_R t HT.out _) ?_ ?_
         · rintro v wc3 ⟨rg3, rfl, ra3, rb3⟩
           refine wpAny_ready (rs := [26]) (by kernel_rfl) (by simp) ?_
           refine rd_run 26 103 (.string (strOfNums (bek 8 t.toNat))) rfl rfl (by kernel_rfl) (rd_conv rfl (by kernel_rfl) (conv_any (Ag.i (ra3)))) ?_ ?_
           ·
            refine rd_take 29 106 (.bool true) rfl rfl (by kernel_rfl) (by kernel_rfl) (by kernel_rfl) (fun _ _ _ h => h) (by kernel_rfl) (fun w => rd_eqs (s1 := (strOfNums (bek 8 t.toNat))) (s2 := (strOfNums b)) rfl (by kernel_rfl) (by kernel_rfl) (by rw [HTB.out]; simp)) ?_
            refine rd_take 30 107 (.bool true) rfl rfl (by kernel_rfl) (by kernel_rfl) (by kernel_rfl) (fun _ _ _ h => h) (by kernel_rfl) (fun w => by kernel_rfl) ?_
            refine rd_take 31 108 (.bool true) rfl rfl (by kernel_rfl) (by kernel_rfl) (by kernel_rfl) (fun _ _ _ h => h) (by kernel_rfl) (fun w => by kernel_rfl) ?_
            refine rd_take 32 6 (.bool true) rfl rfl (by kernel_rfl) (by kernel_rfl) (by kernel_rfl) (fun _ _ _ h => h) (by kernel_rfl) (fun w => by kernel_rfl) ?_
            refine wpAny_done (by kernel_rfl) ?_ _
            exact hk _ _ (end_ret 6 rfl (by kernel_rfl) (by kernel_rfl) (below_go (below_go HBW.out.drew rb1) rb3))
           exact AllReady.nil
         exact AllReady.nil
        exact AllReady.nil
       exact AllReady.nil
      refine rd_run 7 84 (.string (strOfNums b)) rfl rfl (by kernel_rfl) (rd_conv rfl (by kernel_rfl) (conv_any (Ag.i (Ag.at (HAG.out.drew) rb1)))) ?_ ?_
      ·
       refine wpAny_ready (rs := [5]) (by kernel_rfl) (by simp) ?_
       refine rd_run 5 82 (.string (strOfNums (be u.toNat))) rfl rfl (by kernel_rfl) (rd_conv rfl (by kernel_rfl) (conv_any (Ag.i (ra1)))) ?_ ?_
       ·
        refine rd_take 8 85 (.bool true) rfl rfl (by kernel_rfl) (by kernel_rfl) (by kernel_rfl) (fun _ _ _ h => h) (by kernel_rfl) (fun w => rd_eqs (s1 := (strOfNums (be u.toNat))) (s2 := (strOfNums b)) rfl (by kernel_rfl) (by kernel_rfl) (by rw [HUB.out]; simp)) ?_
        refine rd_take 9 86 (.bool true) rfl rfl (by kernel_rfl) (by kernel_rfl) (by kernel_rfl) (fun _ _ _ h => h) (by kernel_rfl) (fun w => by kernel_rfl) ?_
        refine rd_take 10 87 (.bool true) rfl rfl (by kernel_rfl) (by kernel_rfl) (by kernel_rfl) (fun _ _ _ h => h) (by kernel_rfl) (fun w => by kernel_rfl) ?_
        refine rd_take 11 88 (.bool false) rfl rfl (by kernel_rfl) (by kernel_rfl) (by kernel_rfl) (fun _ _ _ h => h) (by kernel_rfl) (fun w => by kernel_rfl) ?_
        refine rd_take 12 89 (.bool true) rfl rfl (by kernel_rfl) (by kernel_rfl) (by kernel_rfl) (fun _ _ _ h => h) (by kernel_rfl) (fun w => by kernel_rfl) ?_
        refine rd_take 13 90 (.bool true) rfl rfl (by kernel_rfl) (by kernel_rfl) (by kernel_rfl) (fun _ _ _ h => h) (by kernel_rfl) (fun w => by kernel_rfl) ?_
        refine rd_skip 14 91 rfl rfl (by kernel_rfl) (by kernel_rfl) (by kernel_rfl) (fun _ _ _ h => h) (by kernel_rfl) ?_
        refine rd_skip 15 92 rfl rfl (by kernel_rfl) (by kernel_rfl) (by kernel_rfl) (fun _ _ _ h => h) (by kernel_rfl) ?_
        refine rd_skip 16 93 rfl rfl (by kernel_rfl) (by kernel_rfl) (by kernel_rfl) (fun _ _ _ h => h) (by kernel_rfl) ?_
        refine rd_skip 17 94 rfl rfl (by kernel_rfl) (by kernel_rfl) (by kernel_rfl) (fun _ _ _ h => h) (by kernel_rfl) ?_
        refine rd_take 18 95 (.bool true) rfl rfl (by kernel_rfl) (by kernel_rfl) (by kernel_rfl) (fun _ _ _ h => h) (by kernel_rfl) (fun w => by kernel_rfl) ?_
        refine rd_take 19 96 (.bool true) rfl rfl (by kernel_rfl) (by kernel_rfl) (by kernel_rfl) (fun _ _ _ h => h) (by kernel_rfl) (fun w => by kernel_rfl) ?_
        refine rd_take 20 97 (.bool true) rfl rfl (by kernel_rfl) (by kernel_rfl) (by kernel_rfl) (fun _ _ _ h => h) (by kernel_rfl) (fun w => by kernel_rfl) ?_
        refine rd_take 21 98 (.bool true) rfl rfl (by kernel_rfl) (by kernel_rfl) (by kernel_rfl) (fun _ _ _ h => h) (by kernel_rfl) (fun w => by kernel_rfl) ?_
        refine rd_take 22 99 (.bool false) rfl rfl (by kernel_rfl) (by kernel_rfl) (by kernel_rfl) (fun _ _ _ h => h) (by kernel_rfl) (fun w => by kernel_rfl) ?_
        refine rd_take 23 100 (.bool false) rfl rfl (by kernel_rfl) (by kernel_rfl) (by kernel_rfl) (fun _ _ _ h => h) (by kernel_rfl) (fun w => by kernel_rfl) ?_
        refine rd_take 24 101 (.int .u64 t) rfl rfl (by kernel_rfl) (by kernel_rfl) (by kernel_rfl) (fun _ _ _ h => h) (by kernel_rfl) (fun w => by kernel_rfl) ?_
        refine rd_take 27 104 (.slice a n c) rfl rfl (by kernel_rfl) (by kernel_rfl) (by kernel_rfl) (fun _ _ _ h => h) (by kernel_rfl) (fun w => by kernel_rfl) ?_
        refine wpAny_ready (rs := [25, 28]) (by kernel_rfl) (by simp) ?_
        refine rd_call 25 102 rfl rfl (by kernel_rfl) 22 #[.int .u64 t] (by kernel_rfl) (key_R t HT.out _) ?_ ?_
        · rintro v wc4 ⟨rg4, rfl, ra4, rb4⟩
          refine wpAny_ready (rs := [26, 28]) (by kernel_rfl) (by simp) ?_
          refine rd_run 26 103 (.string (strOfNums (bek 8 t.toNat))) rfl rfl (by kernel_rfl) (rd_conv rfl (by kernel_rfl) (conv_any (Ag.i (ra4)))) ?_ ?_
          ·
           refine wpAny_ready (rs := [28]) (by kernel_rfl) (by simp) ?_
           refine rd_run 28 105 (.string (strOfNums b)) rfl rfl (by kernel_rfl) (rd_conv rfl (by kernel_rfl) (conv_any (Ag.i (Ag.at (Ag.at (HAG.out.drew) rb1) rb4)))) ?_ ?_
           ·
            refine rd_take 29 106 (.bool true) rfl rfl (by kernel_rfl) (by kernel_rfl) (by kernel_rfl) (fun _ _ _ h => h) (by kernel_rfl) (fun w => rd_eqs (s1 := (strOfNums (bek 8 t.toNat))) (s2 := (strOfNums b)) rfl (by kernel_rfl) (by kernel_rfl) (by rw [HTB.out]; simp)) ?_
            refine rd_take 30 107 (.bool true) rfl rfl (by kernel_rfl) (by kernel_rfl) (by kernel_rfl) (fun _ _ _ h => h) (by kernel_rfl) (fun w => by kernel_rfl) ?_
            refine rd_take 31 108 (.bool true) rfl rfl (by kernel_rfl) (by kernel_rfl) (by kernel_rfl) (fun _ _ _ h => h) (by kernel_rfl) (fun w => by kernel_rfl) ?_
            refine rd_take 32 6 (.bool true) rfl rfl (by kernel_rfl) (by kernel_rfl) (by kernel_rfl) (fun _ _ _ h => h) (by kernel_rfl) (fun w => by kernel_rfl) ?_
            refine wpAny_done (by kernel_rfl) ?_ _
            exact hk _ _ (end_ret 6 rfl (by kernel_rfl) (by kernel_rfl) (below_go (below_go HBW.out.drew rb1) rb4))
           exact AllReady.nil
          refine rd_run 28 105 (.string (strOfNums b)) rfl rfl (by kernel_rfl) (rd_conv rfl (by kernel_rfl) (conv_any (Ag.i (Ag.at (Ag.at (HAG.out.drew) rb1) rb4)))) ?_ ?_
          ·
           refine wpAny_ready (rs := [26]) (by kernel_rfl) (by simp) ?_
           refine rd_run 26 103 (.string (strOfNums (bek 8 t.toNat))) rfl rfl (by kernel_rfl) (rd_conv rfl (by kernel_rfl) (conv_any (Ag.i (ra4)))) ?_ ?_
           ·
            refine rd_take 29 106 (.bool true) rfl rfl (by kernel_rfl) (by kernel_rfl) (by kernel_rfl) (fun _ _ _ h => h) (by kernel_rfl) (fun w => rd_eqs (s1 := (strOfNums (bek 8 t.toNat))) (s2 := (strOfNums b)) rfl (by kernel_rfl) (by kernel_rfl) (by rw [HTB.out]; simp)) ?_
            refine rd_take 30 107 (.bool true) rfl rfl (by kernel_rfl) (by kernel_rfl) (by kernel_rfl) (fun _ _ _ h => h) (by kernel_rfl) (fun w => by kernel_rfl) ?_
            refine rd_take 31 108 (.bool true) rfl rfl (by kernel_rfl) (by kernel_rfl) (by kernel_rfl) (fun _ _ _ h => h) (by kernel_rfl) (fun w => by kernel_rfl) ?_
            refine rd_take 32 6 (.bool true) rfl rfl (by kernel_rfl) (by kernel_rfl) (by kernel_rfl) (fun _ _ _ h => h) (by kernel_rfl) (fun w => by kernel_rfl) ?_
            refine wpAny_done (by kernel_rfl) ?_ _
            exact hk _ _ (end_ret 6 rfl (by kernel_rfl) (by kernel_rfl) (below_go (below_go HBW.out.drew rb1) rb4))
           exact AllReady.nil
          exact AllReady.nil
        refine rd_run 28 105 (.string (strOfNums b)) rfl rfl (by kernel_rfl) (rd_conv rfl (by kernel_rfl) (conv_any (Ag.i (Ag.at (HAG.out.drew) rb1)))) ?_ ?_
        ·
         refine wpAny_ready (rs := [25]) (by kernel_rfl) (by simp) ?_
         refine rd_call 25 102 rfl rfl (by kernel_rfl) 22 #[.int .u64 t] (by kernel_rfl) (key_R t HT.out _) ?_ ?_
         · rintro v wc5 ⟨rg5, rfl, ra5, rb5⟩
           refine wpAny_ready (rs := [26]) (by kernel_rfl) (by simp) ?_
           refine rd_run 26 103 (.string (strOfNums (bek 8 t.toNat))) rfl rfl (by kernel_rfl) (rd_conv rfl (by kernel_rfl) (conv_any (Ag.i (ra5)))) ?_ ?_
           ·
            refine rd_take 29 106 (.bool true) rfl rfl (by kernel_rfl) (by kernel_rfl) (by kernel_rfl) (fun _ _ _ h => h) (by kernel_rfl) (fun w => rd_eqs (s1 := (strOfNums (bek 8 t.toNat))) (s2 := (strOfNums b)) rfl (by kernel_rfl) (by kernel_rfl) (by rw [HTB.out]; simp)) ?_
            refine rd_take 30 107 (.bool true) rfl rfl (by kernel_rfl) (by kernel_rfl) (by kernel_rfl) (fun _ _ _ h => h) (by kernel_rfl) (fun w => by kernel_rfl) ?_
            refine rd_take 31 108 (.bool true) rfl rfl (by kernel_rfl) (by kernel_rfl) (by kernel_rfl) (fun _ _ _ h => h) (by kernel_rfl) (fun w => by kernel_rfl) ?_
            refine rd_take 32 6 (.bool true) rfl rfl (by kernel_rfl) (by kernel_rfl) (by kernel_rfl) (fun _ _ _ h => h) (by kernel_rfl) (fun w => by kernel_rfl) ?_
            refine wpAny_done (by kernel_rfl) ?_ _
            exact hk _ _ (end_ret 6 rfl (by kernel_rfl) (by kernel_rfl) (below_go (below_go HBW.out.drew rb1) rb5))
           exact AllReady.nil
         exact AllReady.nil
        exact AllReady.nil
       exact AllReady.nil
      exact AllReady.nil
    refine rd_run 7 84 (.string (strOfNums b)) rfl rfl (by kernel_rfl) (rd_conv rfl (by kernel_rfl) (conv_any (Ag.i (HAG.out.drew)))) ?_ ?_
    ·
     refine wpAny_ready (rs := [4]) (by kernel_rfl) (by simp) ?_
     refine rd_call 4 81 rfl rfl (by kernel_rfl) 17 #[.int .u64 u] (by kernel_rfl) (bytes_R u HU.out _) ?_ ?_
     · rintro v wc6 ⟨rg6, rfl, ra6, rb6⟩
       refine wpAny_ready (rs := [5]) (by kernel_rfl) (by simp) ?_
       refine rd_run 5 82 (.string (strOfNums (be u.toNat))) rfl rfl (by kernel_rfl) (rd_conv rfl (by kernel_rfl) (conv_any (Ag.i (ra6)))) ?_ ?_
       ·
        refine rd_take 8 85 (.bool true) rfl rfl (by kernel_rfl) (by kernel_rfl) (by kernel_rfl) (fun _ _ _ h => h) (by kernel_rfl) (fun w => rd_eqs (s1 := (strOfNums (be u.toNat))) (s2 := (strOfNums b)) rfl (by kernel_rfl) (by kernel_rfl) (by rw [HUB.out]; simp)) ?_
        refine rd_take 9 86 (.bool true) rfl rfl (by kernel_rfl) (by kernel_rfl) (by kernel_rfl) (fun _ _ _ h => h) (by kernel_rfl) (fun w => by kernel_rfl) ?_
        refine rd_take 10 87 (.bool true) rfl rfl (by kernel_rfl) (by kernel_rfl) (by kernel_rfl) (fun _ _ _ h => h) (by kernel_rfl) (fun w => by kernel_rfl) ?_
        refine rd_take 11 88 (.bool false) rfl rfl (by kernel_rfl) (by kernel_rfl) (by kernel_rfl) (fun _ _ _ h => h) (by kernel_rfl) (fun w => by kernel_rfl) ?_
        refine rd_take 12 89 (.bool true) rfl rfl (by kernel_rfl) (by kernel_rfl) (by kernel_rfl) (fun _ _ _ h => h) (by kernel_rfl) (fun w => by kernel_rfl) ?_
        refine rd_take 13 90 (.bool true) rfl rfl (by kernel_rfl) (by kernel_rfl) (by kernel_rfl) (fun _ _ _ h => h) (by kernel_rfl) (fun w => by kernel_rfl) ?_
        refine rd_skip 14 91 rfl rfl (by kernel_rfl) (by kernel_rfl) (by kernel_rfl) (fun _ _ _ h => h) (by kernel_rfl) ?_
        refine rd_skip 15 92 rfl rfl (by kernel_rfl) (by kernel_rfl) (by kernel_rfl) (fun _ _ _ h => h) (by kernel_rfl) ?_
        refine rd_skip 16 93 rfl rfl (by kernel_rfl) (by kernel_rfl) (by kernel_rfl) (fun _ _ _ h => h) (by kernel_rfl) ?_
        refine rd_skip 17 94 rfl rfl (by kernel_rfl) (by kernel_rfl) (by kernel_rfl) (fun _ _ _ h => h) (by kernel_rfl) ?_
        refine rd_take 18 95 (.bool true) rfl rfl (by kernel_rfl) (by kernel_rfl) (by kernel_rfl) (fun _ _ _ h => h) (by kernel_rfl) (fun w => by kernel_rfl) ?_
        refine rd_take 19 96 (.bool true) rfl rfl (by kernel_rfl) (by kernel_rfl) (by kernel_rfl) (fun _ _ _ h => h) (by kernel_rfl) (fun w => by kernel_rfl) ?_
        refine rd_take 20 97 (.bool true) rfl rfl (by kernel_rfl) (by kernel_rfl) (by kernel_rfl) (fun _ _ _ h => h) (by kernel_rfl) (fun w => by kernel_rfl) ?_
        refine rd_take 21 98 (.bool true) rfl rfl (by kernel_rfl) (by kernel_rfl) (by kernel_rfl) (fun _ _ _ h => h) (by kernel_rfl) (fun w => by kernel_rfl) ?_
        refine rd_take 22 99 (.bool false) rfl rfl (by kernel_rfl) (by kernel_rfl) (by kernel_rfl) (fun _ _ _ h => h) (by kernel_rfl) (fun w => by kernel_rfl) ?_
        refine rd_take 23 100 (.bool false) rfl rfl (by kernel_rfl) (by kernel_rfl) (by kernel_rfl) (fun _ _ _ h => h) (by kernel_rfl) (fun w => by kernel_rfl) ?_
        refine rd_take 24 101 (.int .u64 t) rfl rfl (by kernel_rfl) (by kernel_rfl) (by kernel_rfl) (fun _ _ _ h => h) (by kernel_rfl) (fun w => by kernel_rfl) ?_
        refine rd_take 27 104 (.slice a n c) rfl rfl (by kernel_rfl) (by kernel_rfl) (by kernel_rfl) (fun _ _ _ h => h) (by kernel_rfl) (fun w => by kernel_rfl) ?_
        refine wpAny_ready (rs := [25, 28]) (by kernel_rfl) (by simp) ?_
        refine rd_call 25 102 rfl rfl (by kernel_rfl) 22 #[.int .u64 t] (by kernel_rfl) (key_R t HT.out _) ?_ ?_
        · rintro v wc7 ⟨rg7, rfl, ra7, rb7⟩
          refine wpAny_ready (rs := [26, 28]) (by kernel_rfl) (by simp) ?_
          refine rd_run 26 103 (.string (strOfNums (bek 8 t.toNat))) rfl rfl (by kernel_rfl) (rd_conv rfl (by kernel_rfl) (conv_any (Ag.i (ra7)))) ?_ ?_
          ·
           refine wpAny_ready (rs := [28]) (by kernel_rfl) (by simp) ?_
           refine rd_run 28 105 (.string (strOfNums b)) rfl rfl (by kernel_rfl) (rd_conv rfl (by kernel_rfl) (conv_any (Ag.i (Ag.at (Ag.at (HAG.out.drew) rb6) rb7)))) ?_ ?_
           ·
            refine rd_take 29 106 (.bool true) rfl rfl (by kernel_rfl) (by kernel_rfl) (by kernel_rfl) (fun _ _ _ h => h) (by kernel_rfl) (fun w => rd_eqs (s1 := (strOfNums (bek 8 t.toNat))) (s2 := (strOfNums b)) rfl (by kernel_rfl) (by kernel_rfl) (by rw [HTB.out]; simp)) ?_
            refine rd_take 30 107 (.bool true) rfl rfl (by kernel_rfl) (by kernel_rfl) (by kernel_rfl) (fun _ _ _ h => h) (by kernel_rfl) (fun w => by kernel_rfl) ?_
            refine rd_take 31 108 (.bool true) rfl rfl (by kernel_rfl) (by kernel_rfl) (by kernel_rfl) (fun _ _ _ h => h) (by kernel_rfl) (fun w => by kernel_rfl) ?_
            refine rd_take 32 6 (.bool true) rfl rfl (by kernel_rfl) (by kernel_rfl) (by kernel_rfl) (fun _ _ _ h => h) (by kernel_rfl) (fun w => by kernel_rfl) ?_
            refine wpAny_done (by kernel_rfl) ?_ _
            exact hk _ _ (end_ret 6 rfl (by kernel_rfl) (by kernel_rfl) (below_go (below_go HBW.out.drew rb6) rb7))
           exact AllReady.nil
          refine rd_run 28 105 (.string (strOfNums b)) rfl rfl (by kernel_rfl) (rd_conv rfl (by kernel_rfl) (conv_any (Ag.i (Ag.at (Ag.at (HAG.out.drew) rb6) rb7)))) ?_ ?_
          ·
           refine wpAny_ready (rs := [26]) (by kernel_rfl) (by simp) ?_
           refine rd_run 26 103 (.string (strOfNums (bek 8 t.toNat))) rfl rfl (by kernel_rfl) (rd_conv rfl (by kernel_rfl) (conv_any (Ag.i (ra7)))) ?_ ?_
           ·
            refine rd_take 29 106 (.bool true) rfl rfl (by kernel_rfl) (by kernel_rfl) (by kernel_rfl) (fun _ _ _ h => h) (by kernel_rfl) (fun w => rd_eqs (s1 := (strOfNums (bek 8 t.toNat))) (s2 := (strOfNums b)) rfl (by kernel_rfl) (by kernel_rfl) (by rw [HTB.out]; simp)) ?_
            refine rd_take 30 107 (.bool true) rfl rfl (by kernel_rfl) (by kernel_rfl) (by kernel_rfl) (fun _ _ _ h => h) (by kernel_rfl) (fun w => by kernel_rfl) ?_
            refine rd_take 31 108 (.bool true) rfl rfl (by kernel_rfl) (by kernel_rfl) (by kernel_rfl) (fun _ _ _ h => h) (by kernel_rfl) (fun w => by kernel_rfl) ?_
            refine rd_take 32 6 (.bool true) rfl rfl (by kernel_rfl) (by kernel_rfl) (by kernel_rfl) (fun _ _ _ h => h) (by kernel_rfl) (fun w => by kernel_rfl) ?_
            refine wpAny_done (by kernel_rfl) ?_ _
            exact hk _ _ (end_ret 6 rfl (by kernel_rfl) (by kernel_rfl) (below_go (below_go HBW.out.drew rb6) rb7))
           exact AllReady.nil
          exact AllReady.nil
        refine rd_run 28 105 (.string (strOfNums b)) rfl rfl (by kernel_rfl) (rd_conv rfl (by kernel_rfl) (conv_any (Ag.i (Ag.at (HAG.out.drew) rb6)))) ?_ ?_
        ·
         refine wpAny_ready (rs := [25]) (by kernel_rfl) (by simp) ?_
         refine rd_call 25 102 rfl rfl (by kernel_rfl) 22 #[.int .u64 t] (by kernel_rfl) (key_R t HT.out _) ?_ ?_
         · rintro v wc8 ⟨rg8, rfl, ra8, rb8⟩
           refine wpAny_ready (rs := [26]) (by kernel_rfl) (by simp) ?_
           refine rd_run 26 103 (.string (strOfNums (bek 8 t.toNat))) rfl rfl (by kernel_rfl) (rd_conv rfl (by kernel_rfl) (conv_any (Ag.i (ra8)))) ?_ ?_
           ·
            refine rd_take 29 106 (.bool true) rfl rfl (by kernel_rfl) (by kernel_rfl) (by kernel_rfl) (fun _ _ _ h => h) (by kernel_rfl) (fun w => rd_eqs (s1 := (strOfNums (bek 8 t.toNat))) (s2 := (strOfNums b)) rfl (by kernel_rfl) (by kernel_rfl) (by rw [HTB.out]; simp)) ?_
            refine rd_take 30 107 (.bool true) rfl rfl (by kernel_rfl) (by kernel_rfl) (by kernel_rfl) (fun _ _ _ h => h) (by kernel_rfl) (fun w => by kernel_rfl) ?_
            refine rd_take 31 108 (.bool true) rfl rfl (by kernel_rfl) (by kernel_rfl) (by kernel_rfl) (fun _ _ _ h => h) (by kernel_rfl) (fun w => by kernel_rfl) ?_
            refine rd_take 32 6 (.bool true) rfl rfl (by kernel_rfl) (by kernel_rfl) (by kernel_rfl) (fun _ _ _ h => h) (by kernel_rfl) (fun w => by kernel_rfl) ?_
            refine wpAny_done (by kernel_rfl) ?_ _
            exact hk _ _ (end_ret 6 rfl (by kernel_rfl) (by kernel_rfl) (below_go (below_go HBW.out.drew rb6) rb8))
           exact AllReady.nil
         exact AllReady.nil
        exact AllReady.nil
       exact AllReady.nil
     exact AllReady.nil
    exact AllReady.nil
  · have HU := Hid.mk (F7 rfl).1
    have HUB := Hid.mk (F7 rfl).2
    have HV := Hid.mk (F8 rfl).1
    have HVB := Hid.mk (F8 rfl).2
    clear F7 F8 F9
    go_wp2_with fail
    rename_i K hk
    refine wp_region_any (by kernel_rfl) ?_
    try (change wpAny _ _ _ _ _ _ _ (World.drew _))
    refine rd_take 0 77 (.bool true) rfl rfl (by kernel_rfl) (by kernel_rfl) (by kernel_rfl) (fun _ _ _ h => h) (by kernel_rfl) (fun w => by kernel_rfl) ?_
    refine rd_take 1 78 (.bool false) rfl rfl (by kernel_rfl) (by kernel_rfl) (by kernel_rfl) (fun _ _ _ h => h) (by kernel_rfl) (fun w => by kernel_rfl) ?_
    refine rd_take 2 79 (.bool false) rfl rfl (by kernel_rfl) (by kernel_rfl) (by kernel_rfl) (fun _ _ _ h => h) (by kernel_rfl) (fun w => by kernel_rfl) ?_
    refine rd_take 3 80 (.int .u64 u) rfl rfl (by kernel_rfl) (by kernel_rfl) (by kernel_rfl) (fun _ _ _ h => h) (by kernel_rfl) (fun w => by kernel_rfl) ?_
    refine rd_take 6 83 (.slice a n c) rfl rfl (by kernel_rfl) (by kernel_rfl) (by kernel_rfl) (fun _ _ _ h => h) (by kernel_rfl) (fun w => by kernel_rfl) ?_
    refine wpAny_ready (rs := [4, 7]) (by kernel_rfl) (by simp) ?_
    refine rd_call 4 81 rfl rfl (by kernel_rfl) 17 #[.int .u64 u] (by kernel_rfl) (bytes_R u HU.out _) ?_ ?_
    · rintro v wc1 ⟨rg1, rfl, ra1, rb1⟩
      refine wpAny_ready (rs := [5, 7]) (by kernel_rfl) (by simp) ?_
      refine rd_run 5 82 (.string (strOfNums (be u.toNat))) rfl rfl (by kernel_rfl) (rd_conv rfl (by kernel_rfl) (conv_any (Ag.i (ra1)))) ?_ ?_
      ·
       refine wpAny_ready (rs := [7]) (by kernel_rfl) (by simp) ?_
       refine rd_run 7 84 (.string (strOfNums b)) rfl rfl (by kernel_rfl) (rd_conv rfl (by kernel_rfl) (conv_any (Ag.i (Ag.at (HAG.out.drew) rb1)))) ?_ ?_
       ·
        refine rd_take 8 85 (.bool true) rfl rfl (by kernel_rfl) (by kernel_rfl) (by kernel_rfl) (fun _ _ _ h => h) (by kernel_rfl) (fun w => rd_eqs (s1 := (strOfNums (be u.toNat))) (s2 := (strOfNums b)) rfl (by kernel_rfl) (by kernel_rfl) (by rw [HUB.out]; simp)) ?_
        refine rd_take 9 86 (.bool true) rfl rfl (by kernel_rfl) (by kernel_rfl) (by kernel_rfl) (fun _ _ _ h => h) (by kernel_rfl) (fun w => by kernel_rfl) ?_
        refine rd_take 10 87 (.bool true) rfl rfl (by kernel_rfl) (by kernel_rfl) (by kernel_rfl) (fun _ _ _ h => h) (by kernel_rfl) (fun w => by kernel_rfl) ?_
        refine rd_take 11 88 (.bool true) rfl rfl (by kernel_rfl) (by kernel_rfl) (by kernel_rfl) (fun _ _ _ h => h) (by kernel_rfl) (fun w => by kernel_rfl) ?_
        refine rd_take 12 89 (.bool false) rfl rfl (by kernel_rfl) (by kernel_rfl) (by kernel_rfl) (fun _ _ _ h => h) (by kernel_rfl) (fun w => by kernel_rfl) ?_
        refine rd_take 13 90 (.bool false) rfl rfl (by kernel_rfl) (by kernel_rfl) (by kernel_rfl) (fun _ _ _ h => h) (by kernel_rfl) (fun w => by kernel_rfl) ?_
        refine rd_take 14 91 (.int .u64 v) rfl rfl (by kernel_rfl) (by kernel_rfl) (by kernel_rfl) (fun _ _ _ h => h) (by kernel_rfl) (fun w => by kernel_rfl) ?_
        refine rd_take 16 93 (.string s) rfl rfl (by kernel_rfl) (by kernel_rfl) (by kernel_rfl) (fun _ _ _ h => h) (by kernel_rfl) (fun w => by kernel_rfl) ?_
        refine wpAny_ready (rs := [15]) (by kernel_rfl) (by simp) ?_
        refine rd_call 15 92 rfl rfl (by kernel_rfl) 26 #[.int .u64 v] (by kernel_rfl) (print_R v HV.out _) ?_ ?_
        · rintro v wc2 ⟨rfl, rb2⟩
          refine rd_take 17 94 (.bool true) rfl rfl (by kernel_rfl) (by kernel_rfl) (by kernel_rfl) (fun _ _ _ h => h) (by kernel_rfl) (fun w => rd_eqs (s1 := (strOfNums (pr v.toNat))) (s2 := s) rfl (by kernel_rfl) (by kernel_rfl) (by rw [HVB.out]; simp)) ?_
          refine rd_take 18 95 (.bool true) rfl rfl (by kernel_rfl) (by kernel_rfl) (by kernel_rfl) (fun _ _ _ h => h) (by kernel_rfl) (fun w => by kernel_rfl) ?_
          refine rd_take 19 96 (.bool true) rfl rfl (by kernel_rfl) (by kernel_rfl) (by kernel_rfl) (fun _ _ _ h => h) (by kernel_rfl) (fun w => by kernel_rfl) ?_
          refine rd_take 20 97 (.bool true) rfl rfl (by kernel_rfl) (by kernel_rfl) (by kernel_rfl) (fun _ _ _ h => h) (by kernel_rfl) (fun w => by kernel_rfl) ?_
          refine rd_take 21 98 (.bool false) rfl rfl (by kernel_rfl) (by kernel_rfl) (by kernel_rfl) (fun _ _ _ h => h) (by kernel_rfl) (fun w => by kernel_rfl) ?_
          refine rd_take 22 99 (.bool true) rfl rfl (by kernel_rfl) (by kernel_rfl) (by kernel_rfl) (fun _ _ _ h => h) (by kernel_rfl) (fun w => by kernel_rfl) ?_
          refine rd_take 23 100 (.bool true) rfl rfl (by kernel_rfl) (by kernel_rfl) (by kernel_rfl) (fun _ _ _ h => h) (by kernel_rfl) (fun w => by kernel_rfl) ?_
          refine rd_skip 24 101 rfl rfl (by kernel_rfl) (by kernel_rfl) (by kernel_rfl) (fun _ _ _ h => h) (by kernel_rfl) ?_
          refine rd_skip 25 102 rfl rfl (by kernel_rfl) (by kernel_rfl) (by kernel_rfl) (fun _ _ _ h => h) (by kernel_rfl) ?_
          refine rd_skip 26 103 rfl rfl (by kernel_rfl) (by kernel_rfl) (by kernel_rfl) (fun _ _ _ h => h) (by kernel_rfl) ?_
          refine rd_skip 27 104 rfl rfl (by kernel_rfl) (by kernel_rfl) (by kernel_rfl) (fun _ _ _ h => h) (by kernel_rfl) ?_
          refine rd_skip 28 105 rfl rfl (by kernel_rfl) (by kernel_rfl) (by kernel_rfl) (fun _ _ _ h => h) (by kernel_rfl) ?_
          refine rd_skip 29 106 rfl rfl (by kernel_rfl) (by kernel_rfl) (by kernel_rfl) (fun _ _ _ h => h) (by kernel_rfl) ?_
          refine rd_take 30 107 (.bool true) rfl rfl (by kernel_rfl) (by kernel_rfl) (by kernel_rfl) (fun _ _ _ h => h) (by kernel_rfl) (fun w => by kernel_rfl) ?_
          refine rd_take 31 108 (.bool true) rfl rfl (by kernel_rfl) (by kernel_rfl) (by kernel_rfl) (fun _ _ _ h => h) (by kernel_rfl) (fun w => by kernel_rfl) ?_
          refine rd_take 32 6 (.bool true) rfl rfl (by kernel_rfl) (by kernel_rfl) (by kernel_rfl) (fun _ _ _ h => h) (by kernel_rfl) (fun w => by kernel_rfl) ?_
          refine wpAny_done (by kernel_rfl) ?_ _
          exact hk _ _ (end_ret 6 rfl (by kernel_rfl) (by kernel_rfl) (below_go (below_go HBW.out.drew rb1) rb2))
        exact AllReady.nil
       exact AllReady.nil
      refine rd_run 7 84 (.string (strOfNums b)) rfl rfl (by kernel_rfl) (rd_conv rfl (by kernel_rfl) (conv_any (Ag.i (Ag.at (HAG.out.drew) rb1)))) ?_ ?_
      ·
       refine wpAny_ready (rs := [5]) (by kernel_rfl) (by simp) ?_
       refine rd_run 5 82 (.string (strOfNums (be u.toNat))) rfl rfl (by kernel_rfl) (rd_conv rfl (by kernel_rfl) (conv_any (Ag.i (ra1)))) ?_ ?_
       ·
        refine rd_take 8 85 (.bool true) rfl rfl (by kernel_rfl) (by kernel_rfl) (by kernel_rfl) (fun _ _ _ h => h) (by kernel_rfl) (fun w => rd_eqs (s1 := (strOfNums (be u.toNat))) (s2 := (strOfNums b)) rfl (by kernel_rfl) (by kernel_rfl) (by rw [HUB.out]; simp)) ?_
        refine rd_take 9 86 (.bool true) rfl rfl (by kernel_rfl) (by kernel_rfl) (by kernel_rfl) (fun _ _ _ h => h) (by kernel_rfl) (fun w => by kernel_rfl) ?_
        refine rd_take 10 87 (.bool true) rfl rfl (by kernel_rfl) (by kernel_rfl) (by kernel_rfl) (fun _ _ _ h => h) (by kernel_rfl) (fun w => by kernel_rfl) ?_
        refine rd_take 11 88 (.bool true) rfl rfl (by kernel_rfl) (by kernel_rfl) (by kernel_rfl) (fun _ _ _ h => h) (by kernel_rfl) (fun w => by kernel_rfl) ?_
        refine rd_take 12 89 (.bool false) rfl rfl (by kernel_rfl) (by kernel_rfl) (by kernel_rfl) (fun _ _ _ h => h) (by kernel_rfl) (fun w => by kernel_rfl) ?_
        refine rd_take 13 90 (.bool false) rfl rfl (by kernel_rfl) (by kernel_rfl) (by kernel_rfl) (fun _ _ _ h => h) (by kernel_rfl) (fun w => by kernel_rfl) ?_
        refine rd_take 14 91 (.int .u64 v) rfl rfl (by kernel_rfl) (by kernel_rfl) (by kernel_rfl) (fun _ _ _ h => h) (by kernel_rfl) (fun w => by kernel_rfl) ?_
        refine rd_take 16 93 (.string s) rfl rfl (by kernel_rfl) (by kernel_rfl) (by kernel_rfl) (fun _ _ _ h => h) (by kernel_rfl) (fun w => by kernel_rfl) ?_
        refine wpAny_ready (rs := [15]) (by kernel_rfl) (by simp) ?_
        refine rd_call 15 92 rfl rfl (by kernel_rfl) 26 #[.int .u64 v] (by kernel_rfl) (print_R v HV.out _) ?_ ?_
        · rintro v wc3 ⟨rfl, rb3⟩
          refine rd_take 17 94 (.bool true) rfl rfl (by kernel_rfl) (by kernel_rfl) (by kernel_rfl) (fun _ _ _ h => h) (by kernel_rfl) (fun w => rd_eqs (s1 := (strOfNums (pr v.toNat))) (s2 := s) rfl (by kernel_rfl) (by kernel_rfl) (by rw [HVB.out]; simp)) ?_
          refine rd_take 18 95 (.bool true) rfl rfl (by kernel_rfl) (by kernel_rfl) (by kernel_rfl) (fun _ _ _ h => h) (by kernel_rfl) (fun w => by kernel_rfl) ?_
          refine rd_take 19 96 (.bool true) rfl rfl (by kernel_rfl) (by kernel_rfl) (by kernel_rfl) (fun _ _ _ h => h) (by kernel_rfl) (fun w => by kernel_rfl) ?_
          refine rd_take 20 97 (.bool true) rfl rfl (by kernel_rfl) (by kernel_rfl) (by kernel_rfl) (fun _ _ _ h => h) (by kernel_rfl) (fun w => by kernel_rfl) ?_
          refine rd_take 21 98 (.bool false) rfl rfl (by kernel_rfl) (by kernel_rfl) (by kernel_rfl) (fun _ _ _ h => h) (by kernel_rfl) (fun w => by kernel_rfl) ?_
          refine rd_take 22 99 (.bool true) rfl rfl (by kernel_rfl) (by kernel_rfl) (by kernel_rfl) (fun _ _ _ h => h) (by kernel_rfl) (fun w => by kernel_rfl) ?_
          refine rd_take 23 100 (.bool true) rfl rfl (by kernel_rfl) (by kernel_rfl) (by kernel_rfl) (fun _ _ _ h => h) (by kernel_rfl) (fun w => by kernel_rfl) ?_
          refine rd_skip 24 101 rfl rfl (by kernel_rfl) (by kernel_rfl) (by kernel_rfl) (fun _ _ _ h => h) (by kernel_rfl) ?_
          refine rd_skip 25 102 rfl rfl (by kernel_rfl) (by kernel_rfl) (by kernel_rfl) (fun _ _ _ h => h) (by kernel_rfl) ?_
          refine rd_skip 26 103 rfl rfl (by kernel_rfl) (by kernel_rfl) (by kernel_rfl) (fun _ _ _ h => h) (by kernel_rfl) ?_
          refine rd_skip 27 104 rfl rfl (by kernel_rfl) (by kernel_rfl) (by kernel_rfl) (fun _ _ _ h => h) (by kernel_rfl) ?_
          refine rd_skip 28 105 rfl rfl (by kernel_rfl) (by kernel_rfl) (by kernel_rfl) (fun _ _ _ h => h) (by kernel_rfl) ?_
          refine rd_skip 29 106 rfl rfl (by kernel_rfl) (by kernel_rfl) (by kernel_rfl) (fun _ _ _ h => h) (by kernel_rfl) ?_
          refine rd_take 30 107 (.bool true) rfl rfl (by kernel_rfl) (by kernel_rfl) (by kernel_rfl) (fun _ _ _ h => h) (by kernel_rfl) (fun w => by kernel_rfl) ?_
          refine rd_take 31 108 (.bool true) rfl rfl (by kernel_rfl) (by kernel_rfl) (by kernel_rfl) (fun _ _ _ h => h) (by kernel_rfl) (fun w => by kernel_rfl) ?_
          refine rd_take 32 6 (.bool true) rfl rfl (by kernel_rfl) (by kernel_rfl) (by kernel_rfl) (fun _ _ _ h => h) (by kernel_rfl) (fun w => by kernel_rfl) ?_
          refine wpAny_done (by kernel_rfl) ?_ _
          exact hk _ _ (end_ret 6 rfl (by kernel_rfl) (by kernel_rfl) (below_go (below_go HBW.out.drew rb1) rb3))
        exact AllReady.nil
       exact AllReady.nil
      exact AllReady.nil
    refine rd_run 7 84 (.string (strOfNums b)) rfl rfl (by kernel_rfl) (rd_conv rfl (by kernel_rfl) (conv_any (Ag.i (HAG.out.drew)))) ?_ ?_
    ·
     refine wpAny_ready (rs := [4]) (by kernel_rfl) (by simp) ?_
     refine rd_call 4 81 rfl rfl (by kernel_rfl) 17 #[.int .u64 u] (by kernel_rfl) (bytes_R u HU.out _) ?_ ?_
     · rintro v wc4 ⟨rg4, rfl, ra4, rb4⟩
       refine wpAny_ready (rs := [5]) (by kernel_rfl) (by simp) ?_
       refine rd_run 5 82 (.string (strOfNums (be u.toNat))) rfl rfl (by kernel_rfl) (rd_conv rfl (by kernel_rfl) (conv_any (Ag.i (ra4)))) ?_ ?_
       ·
        refine rd_take 8 85 (.bool true) rfl rfl (by kernel_rfl) (by kernel_rfl) (by kernel_rfl) (fun _ _ _ h => h) (by kernel_rfl) (fun w => rd_eqs (s1 := (strOfNums (be u.toNat))) (s2 := (strOfNums b)) rfl (by kernel_rfl) (by kernel_rfl) (by rw [HUB.out]; simp)) ?_
        refine rd_take 9 86 (.bool true) rfl rfl (by kernel_rfl) (by kernel_rfl) (by kernel_rfl) (fun _ _ _ h => h) (by kernel_rfl) (fun w => by kernel_rfl) ?_
        refine rd_take 10 87 (.bool true) rfl rfl (by kernel_rfl) (by kernel_rfl) (by kernel_rfl) (fun _ _ _ h => h) (by kernel_rfl) (fun w => by kernel_rfl) ?_
        refine rd_take 11 88 (.bool true) rfl rfl (by kernel_rfl) (by kernel_rfl) (by kernel_rfl) (fun _ _ _ h => h) (by kernel_rfl) (fun w => by kernel_rfl) ?_
        refine rd_take 12 89 (.bool false) rfl rfl (by kernel_rfl) (by kernel_rfl) (by kernel_rfl) (fun _ _ _ h => h) (by kernel_rfl) (fun w => by kernel_rfl) ?_
        refine rd_take 13 90 (.bool false) rfl rfl (by kernel_rfl) (by kernel_rfl) (by kernel_rfl) (fun _ _ _ h => h) (by kernel_rfl) (fun w => by kernel_rfl) ?_
        refine rd_take 14 91 (.int .u64 v) rfl rfl (by kernel_rfl) (by kernel_rfl) (by kernel_rfl) (fun _ _ _ h => h) (by kernel_rfl) (fun w => by kernel_rfl) ?_
        refine rd_take 16 93 (.string s) rfl rfl (by kernel_rfl) (by kernel_rfl) (by kernel_rfl) (fun _ _ _ h => h) (by kernel_rfl) (fun w => by kernel_rfl) ?_
        refine wpAny_ready (rs := [15]) (by kernel_rfl) (by simp) ?_
        refine rd_call 15 92 rfl rfl (by kernel_rfl) 26 #[.int .u64 v] (by kernel_rfl) (print_R v HV.out _) ?_ ?_
        · rintro v wc5 ⟨rfl, rb5⟩
          refine rd_take 17 94 (.bool true) rfl rfl (by kernel_rfl) (by kernel_rfl) (by kernel_rfl) (fun _ _ _ h => h) (by kernel_rfl) (fun w => rd_eqs (s1 := (strOfNums (pr v.toNat))) (s2 := s) rfl (by kernel_rfl) (by kernel_rfl) (by rw [HVB.out]; simp)) ?_
          refine rd_take 18 95 (.bool true) rfl rfl (by kernel_rfl) (by kernel_rfl) (by kernel_rfl) (fun _ _ _ h => h) (by kernel_rfl) (fun w => by kernel_rfl) ?_
          refine rd_take 19 96 (.bool true) rfl rfl (by kernel_rfl) (by kernel_rfl) (by kernel_rfl) (fun _ _ _ h => h) (by kernel_rfl) (fun w => by kernel_rfl) ?_
          refine rd_take 20 97 (.bool true) rfl rfl (by kernel_rfl) (by kernel_rfl) (by kernel_rfl) (fun _ _ _ h => h) (by kernel_rfl) (fun w => by kernel_rfl) ?_
          refine rd_take 21 98 (.bool false) rfl rfl (by kernel_rfl) (by kernel_rfl) (by kernel_rfl) (fun _ _ _ h => h) (by kernel_rfl) (fun w => by kernel_rfl) ?_
          refine rd_take 22 99 (.bool true) rfl rfl (by kernel_rfl) (by kernel_rfl) (by kernel_rfl) (fun _ _ _ h => h) (by kernel_rfl) (fun w => by kernel_rfl) ?_
          refine rd_take 23 100 (.bool true) rfl rfl (by kernel_rfl) (by kernel_rfl) (by kernel_rfl) (fun _ _ _ h => h) (by kernel_rfl) (fun w => by kernel_rfl) ?_
          refine rd_skip 24 101 rfl rfl (by kernel_rfl) (by kernel_rfl) (by kernel_rfl) (fun _ _ _ h => h) (by kernel_rfl) ?_
          refine rd_skip 25 102 rfl rfl (by kernel_rfl) (by kernel_rfl) (by kernel_rfl) (fun _ _ _ h => h) (by kernel_rfl) ?_
          refine rd_skip 26 103 rfl rfl (by kernel_rfl) (by kernel_rfl) (by kernel_rfl) (fun _ _ _ h => h) (by kernel_rfl) ?_
          refine rd_skip 27 104 rfl rfl (by kernel_rfl) (by kernel_rfl) (by kernel_rfl) (fun _ _ _ h => h) (by kernel_rfl) ?_
          refine rd_skip 28 105 rfl rfl (by kernel_rfl) (by kernel_rfl) (by kernel_rfl) (fun _ _ _ h => h) (by kernel_rfl) ?_
          refine rd_skip 29 106 rfl rfl (by kernel_rfl) (by kernel_rfl) (by kernel_rfl) (fun _ _ _ h => h) (by kernel_rfl) ?_
          refine rd_take 30 107 (.bool true) rfl rfl (by kernel_rfl) (by kernel_rfl) (by kernel_rfl) (fun _ _ _ h => h) (by kernel_rfl) (fun w => by kernel_rfl) ?_
          refine rd_take 31 108 (.bool true) rfl rfl (by kernel_rfl) (by kernel_rfl) (by kernel_rfl) (fun _ _ _ h => h) (by kernel_rfl) (fun w => by kernel_rfl) ?_
          refine rd_take 32 6 (.bool true) rfl rfl (by kernel_rfl) (by kernel_rfl) (by kernel_rfl) (fun _ _ _ h => h) (by kernel_rfl) (fun w => by kernel_rfl) ?_
          refine wpAny_done (by kernel_rfl) ?_ _
          exact hk _ _ (end_ret 6 rfl (by kernel_rfl) (by kernel_rfl) (below_go (below_go HBW.out.drew rb4) rb5))
        exact AllReady.nil
       exact AllReady.nil
     exact AllReady.nil
    exact AllReady.nil
  · have HU := Hid.mk (F7 rfl).1
    have HUB := Hid.mk (F7 rfl).2
    have HV := Hid.mk (F8 rfl).1
    have HVB := Hid.mk (F8 rfl).2
    have HT := Hid.mk (F9 rfl).1
    have HTB := Hid.mk (F9 rfl).2
    clear F7 F8 F9
    go_wp2_with fail
    rename_i K hk
    refine wp_region_any (by kernel_rfl) ?_
    try (change wpAny _ _ _ _ _ _ _ (World.drew _))
    refine rd_take 0 77 (.bool true) rfl rfl (by kernel_rfl) (by kernel_rfl) (by kernel_rfl) (fun _ _ _ h => h) (by kernel_rfl) (fun w => by kernel_rfl) ?_
    refine rd_take 1 78 (.bool false) rfl rfl (by kernel_rfl) (by kernel_rfl) (by kernel_rfl) (fun _ _ _ h => h) (by kernel_rfl) (fun w => by kernel_rfl) ?_
    refine rd_take 2 79 (.bool false) rfl rfl (by kernel_rfl) (by kernel_rfl) (by kernel_rfl) (fun _ _ _ h => h) (by kernel_rfl) (fun w => by kernel_rfl) ?_
    refine rd_take 3 80 (.int .u64 u) rfl rfl (by kernel_rfl) (by kernel_rfl) (by kernel_rfl) (fun _ _ _ h => h) (by kernel_rfl) (fun w => by kernel_rfl) ?_
    refine rd_take 6 83 (.slice a n c) rfl rfl (by kernel_rfl) (by kernel_rfl) (by kernel_rfl) (fun _ _ _ h => h) (by kernel_rfl) (fun w => by kernel_rfl) ?_
    refine wpAny_ready (rs := [4, 7]) (by kernel_rfl) (by simp) ?_
    refine rd_call 4 81 rfl rfl (by kernel_rfl) 17 #[.int .u64 u] (by kernel_rfl) (bytes_R u HU.out _) ?_ ?_
    · rintro v wc1 ⟨rg1, rfl, ra1, rb1⟩
      refine wpAny_ready (rs := [5, 7]) (by kernel_rfl) (by simp) ?_
      refine rd_run 5 82 (.string (strOfNums (be u.toNat))) rfl rfl (by kernel_rfl) (rd_conv rfl (by kernel_rfl) (conv_any (Ag.i (ra1)))) ?_ ?_
      ·
       refine wpAny_ready (rs := [7]) (by kernel_rfl) (by simp) ?_
       refine rd_run 7 84 (.string (strOfNums b)) rfl rfl (by kernel_rfl) (rd_conv rfl (by kernel_rfl) (conv_any (Ag.i (Ag.at (HAG.out.drew) rb1)))) ?_ ?_
       ·
        refine rd_take 8 85 (.bool true) rfl rfl (by kernel_rfl) (by kernel_rfl) (by kernel_rfl) (fun _ _ _ h => h) (by kernel_rfl) (fun w => rd_eqs (s1 := (strOfNums (be u.toNat))) (s2 := (strOfNums b)) rfl (by kernel_rfl) (by kernel_rfl) (by rw [HUB.out]; simp)) ?_
        refine rd_take 9 86 (.bool true) rfl rfl (by kernel_rfl) (by kernel_rfl) (by kernel_rfl) (fun _ _ _ h => h) (by kernel_rfl) (fun w => by kernel_rfl) ?_
        refine rd_take 10 87 (.bool true) rfl rfl (by kernel_rfl) (by kernel_rfl) (by kernel_rfl) (fun _ _ _ h => h) (by kernel_rfl) (fun w => by kernel_rfl) ?_
        refine rd_take 11 88 (.bool true) rfl rfl (by kernel_rfl) (by kernel_rfl) (by kernel_rfl) (fun _ _ _ h => h) (by kernel_rfl) (fun w => by kernel_rfl) ?_
        refine rd_take 12 89 (.bool false) rfl rfl (by kernel_rfl) (by kernel_rfl) (by kernel_rfl) (fun _ _ _ h => h) (by kernel_rfl) (fun w => by kernel_rfl) ?_
        refine rd_take 13 90 (.bool false) rfl rfl (by kernel_rfl) (by kernel_rfl) (by kernel_rfl) (fun _ _ _ h => h) (by kernel_rfl) (fun w => by kernel_rfl) ?_
        refine rd_take 14 91 (.int .u64 v) rfl rfl (by kernel_rfl) (by kernel_rfl) (by kernel_rfl) (fun _ _ _ h => h) (by kernel_rfl) (fun w => by kernel_rfl) ?_
        refine rd_take 16 93 (.string s) rfl rfl (by kernel_rfl) (by kernel_rfl) (by kernel_rfl) (fun _ _ _ h => h) (by kernel_rfl) (fun w => by kernel_rfl) ?_
        refine wpAny_ready (rs := [15]) (by kernel_rfl) (by simp) ?_
        refine rd_call 15 92 rfl rfl (by kernel_rfl) 26 #[.int .u64 v] (by kernel_rfl) (print_R v HV.out _) ?_ ?_
        · rintro v wc2 ⟨rfl, rb2⟩
          refine rd_take 17 94 (.bool true) rfl rfl (by kernel_rfl) (by kernel_rfl) (by kernel_rfl) (fun _ _ _ h => h) (by kernel_rfl) (fun w => rd_eqs (s1 := (strOfNums (pr v.toNat))) (s2 := s) rfl (by kernel_rfl) (by kernel_rfl) (by rw [HVB.out]; simp)) ?_
          refine rd_take 18 95 (.bool true) rfl rfl (by kernel_rfl) (by kernel_rfl) (by kernel_rfl) (fun _ _ _ h => h) (by kernel_rfl) (fun w => by kernel_rfl) ?_
          refine rd_take 19 96 (.bool true) rfl rfl (by kernel_rfl) (by kernel_rfl) (by kernel_rfl) (fun _ _ _ h => h) (by kernel_rfl) (fun w => by kernel_rfl) ?_
          refine rd_take 20 97 (.bool true) rfl rfl (by kernel_rfl) (by kernel_rfl) (by kernel_rfl) (fun _ _ _ h => h) (by kernel_rfl) (fun w => by kernel_rfl) ?_
          refine rd_take 21 98 (.bool true) rfl rfl (by kernel_rfl) (by kernel_rfl) (by kernel_rfl) (fun _ _ _ h => h) (by kernel_rfl) (fun w => by kernel_rfl) ?_
          refine rd_take 22 99 (.bool false) rfl rfl (by kernel_rfl) (by kernel_rfl) (by kernel_rfl) (fun _ _ _ h => h) (by kernel_rfl) (fun w => by kernel_rfl) ?_
          refine rd_take 23 100 (.bool false) rfl rfl (by kernel_rfl) (by kernel_rfl) (by kernel_rfl) (fun _ _ _ h => h) (by kernel_rfl) (fun w => by kernel_rfl) ?_
          refine rd_take 24 101 (.int .u64 t) rfl rfl (by kernel_rfl) (by kernel_rfl) (by kernel_rfl) (fun _ _ _ h => h) (by kernel_rfl) (fun w => by kernel_rfl) ?_
          refine rd_take 27 104 (.slice a n c) rfl rfl (by kernel_rfl) (by kernel_rfl) (by kernel_rfl) (fun _ _ _ h => h) (by kernel_rfl) (fun w => by kernel_rfl) ?_
          refine wpAny_ready (rs := [25, 28]) (by kernel_rfl) (by simp) ?_
          refine rd_call 25 102 rfl rfl (by kernel_rfl) 22 #[.int .u64 t] (by kernel_rfl) (key_R t HT.out _) ?_ ?_
          · rintro v wc3 ⟨rg3, rfl, ra3, rb3⟩
            refine wpAny_ready (rs := [26, 28]) (by kernel_rfl) (by simp) ?_
            refine rd_run 26 103 (.string (strOfNums (bek 8 t.toNat))) rfl rfl (by kernel_rfl) (rd_conv rfl (by kernel_rfl) (conv_any (Ag.i (ra3)))) ?_ ?_
            ·
             refine wpAny_ready (rs := [28]) (by kernel_rfl) (by simp) ?_
             refine rd_run 28 105 (.string (strOfNums b)) rfl rfl (by kernel_rfl) (rd_conv rfl (by kernel_rfl) (conv_any (Ag.i (Ag.at (Ag.at (Ag.at (HAG.out.drew) rb1) rb2) rb3)))) ?_ ?_
             ·
              refine rd_take 29 106 (.bool true) rfl rfl (by kernel_rfl) (by kernel_rfl) (by kernel_rfl) (fun _ _ _ h => h) (by kernel_rfl) (fun w => rd_eqs (s1 := (strOfNums (bek 8 t.toNat))) (s2 := (strOfNums b)) rfl (by kernel_rfl) (by kernel_rfl) (by rw [HTB.out]; simp)) ?_
              refine rd_take 30 107 (.bool true) rfl rfl (by kernel_rfl) (by kernel_rfl) (by kernel_rfl) (fun _ _ _ h => h) (by kernel_rfl) (fun w => by kernel_rfl) ?_
              refine rd_take 31 108 (.bool true) rfl rfl (by kernel_rfl) (by kernel_rfl) (by kernel_rfl) (fun _ _ _ h => h) (by kernel_rfl) (fun w => by kernel_rfl) ?_
              refine rd_take 32 6 (.bool true) rfl rfl (by kernel_rfl) (by kernel_rfl) (by kernel_rfl) (fun _ _ _ h => h) (by kernel_rfl) (fun w => by kernel_rfl) ?_
              refine wpAny_done (by kernel_rfl) ?_ _
              exact hk _ _ (end_ret 6 rfl (by kernel_rfl) (by kernel_rfl) (below_go (below_go (below_go HBW.out.drew rb1) rb2) rb3))
             exact AllReady.nil
            refine rd_run 28 105 (.string (strOfNums b)) rfl rfl (by kernel_rfl) (rd_conv rfl (by kernel_rfl) (conv_any (Ag.i (Ag.at (Ag.at (Ag.at (HAG.out.drew) rb1) rb2) rb3)))) ?_ ?_
            ·
             refine wpAny_ready (rs := [26]) (by kernel_rfl) (by simp) ?_
             refine rd_run 26 103 (.string (strOfNums (bek 8 t.toNat))) rfl rfl (by kernel_rfl) (rd_conv rfl (by kernel_rfl) (conv_any (Ag.i (ra3)))) ?_ ?_
             ·
              refine rd_take 29 106 (.bool true) rfl rfl (by kernel_rfl) (by kernel_rfl) (by kernel_rfl) (fun _ _ _ h => h) (by kernel_rfl) (fun w => rd_eqs (s1 := (strOfNums (bek 8 t.toNat))) (s2 := (strOfNums b)) rfl (by kernel_rfl) (by kernel_rfl) (by rw [HTB.out]; simp)) ?_
              refine rd_take 30 107 (.bool true) rfl rfl (by kernel_rfl) (by kernel_rfl) (by kernel_rfl) (fun _ _ _ h => h) (by kernel_rfl) (fun w => by kernel_rfl) ?_
              refine rd_take 31 108 (.bool true) rfl rfl (by kernel_rfl) (by kernel_rfl) (by kernel_rfl) (fun _ _ _ h => h) (by kernel_rfl) (fun w => by kernel_rfl) ?_
              refine rd_take 32 6 (.bool true) rfl rfl (by kernel_rfl) (by kernel_rfl) (by kernel_rfl) (fun _ _ _ h => h) (by kernel_rfl) (fun w => by kernel_rfl) ?_
              refine wpAny_done (by kernel_rfl) ?_ _
              exact hk _ _ (end_ret 6 rfl (by kernel_rfl) (by kernel_rfl) (below_go (below_go (below_go HBW.out.drew rb1) rb2) rb3))
             exact AllReady.nil
            exact AllReady.nil
          refine rd_run 28 105 (.string (strOfNums b)) rfl rfl (by kernel_rfl) (rd_conv rfl (by kernel_rfl) (conv_any (Ag.i (Ag.at (Ag.at (HAG.out.drew) rb1) rb2)))) ?_ ?_
          ·
           refine wpAny_ready (rs := [25]) (by kernel_rfl) (by simp) ?_
           refine rd_call 25 102 rfl rfl (by kernel_rfl) 22 #[.int .u64 t] (by kernel_rfl) (key_R t HT.out _) ?_ ?_
           · rintro v wc4 ⟨rg4, rfl, ra4, rb4⟩
             refine wpAny_ready (rs := [26]) (by kernel_rfl) (by simp) ?_
             refine rd_run 26 103 (.string (strOfNums (bek 8 t.toNat))) rfl rfl (by kernel_rfl) (rd_conv rfl (by kernel_rfl) (conv_any (Ag.i (ra4)))) ?_ ?_
             ·
              refine rd_take 29 106 (.bool true) rfl rfl (by kernel_rfl) (by kernel_rfl) (by kernel_rfl) (fun _ _ _ h => h) (by kernel_rfl) (fun w => rd_eqs (s1 := (strOfNums (bek 8 t.toNat))) (s2 := (strOfNums b)) rfl (by kernel_rfl) (by kernel_rfl) (by rw [HTB.out]; simp)) ?_
              refine rd_take 30 107 (.bool true) rfl rfl (by kernel_rfl) (by kernel_rfl) (by kernel_rfl) (fun _ _ _ h => h) (by kernel_rfl) (fun w => by kernel_rfl) ?_
              refine rd_take 31 108 (.bool true) rfl rfl (by kernel_rfl) (by kernel_rfl) (by kernel_rfl) (fun _ _ _ h => h) (by kernel_rfl) (fun w => by kernel_rfl) ?_
              refine rd_take 32 6 (.bool true) rfl rfl (by kernel_rfl) (by kernel_rfl) (by kernel_rfl) (fun _ _ _ h => h) (by kernel_rfl) (fun w => by kernel_rfl) ?_
              refine wpAny_done (by kernel_rfl) ?_ _
              exact hk _ _ (end_ret 6 rfl (by kernel_rfl) (by kernel_rfl) (below_go (below_go (below_go HBW.out.drew rb1) rb2) rb4))
             exact AllReady.nil
           exact AllReady.nil
          exact AllReady.nil
        exact AllReady.nil
       exact AllReady.nil
      refine rd_run 7 84 (.string (strOfNums b)) rfl rfl (by kernel_rfl) (rd_conv rfl (by kernel_rfl) (conv_any (Ag.i (Ag.at (HAG.out.drew) rb1)))) ?_ ?_
      ·
       refine wpAny_ready (rs := [5]) (by kernel_rfl) (by simp) ?_
       refine rd_run 5 82 (.string (strOfNums (be u.toNat))) rfl rfl (by kernel_rfl) (rd_conv rfl (by kernel_rfl) (conv_any (Ag.i (ra1)))) ?_ ?_
       ·
        refine rd_take 8 85 (.bool true) rfl rfl (by kernel_rfl) (by kernel_rfl) (by kernel_rfl) (fun _ _ _ h => h) (by kernel_rfl) (fun w => rd_eqs (s1 := (strOfNums (be u.toNat))) (s2 := (strOfNums b)) rfl (by kernel_rfl) (by kernel_rfl) (by rw [HUB.out]; simp)) ?_
        refine rd_take 9 86 (.bool true) rfl rfl (by kernel_rfl) (by kernel_rfl) (by kernel_rfl) (fun _ _ _ h => h) (by kernel_rfl) (fun w => by kernel_rfl) ?_
        refine rd_take 10 87 (.bool true) rfl rfl (by kernel_rfl) (by kernel_rfl) (by kernel_rfl) (fun _ _ _ h => h) (by kernel_rfl) (fun w => by kernel_rfl) ?_
        refine rd_take 11 88 (.bool true) rfl rfl (by kernel_rfl) (by kernel_rfl) (by kernel_rfl) (fun _ _ _ h => h) (by kernel_rfl) (fun w => by kernel_rfl) ?_
        refine rd_take 12 89 (.bool false) rfl rfl (by kernel_rfl) (by kernel_rfl) (by kernel_rfl) (fun _ _ _ h => h) (by kernel_rfl) (fun w => by kernel_rfl) ?_
        refine rd_take 13 90 (.bool false) rfl rfl (by kernel_rfl) (by kernel_rfl) (by kernel_rfl) (fun _ _ _ h => h) (by kernel_rfl) (fun w => by kernel_rfl) ?_
        refine rd_take 14 91 (.int .u64 v) rfl rfl (by kernel_rfl) (by kernel_rfl) (by kernel_rfl) (fun _ _ _ h => h) (by kernel_rfl) (fun w => by kernel_rfl) ?_
        refine rd_take 16 93 (.string s) rfl rfl (by kernel_rfl) (by kernel_rfl) (by kernel_rfl) (fun _ _ _ h => h) (by kernel_rfl) (fun w => by kernel_rfl) ?_
        refine wpAny_ready (rs := [15]) (by kernel_rfl) (by simp) ?_
        refine rd_call 15 92 rfl rfl (by kernel_rfl) 26 #[.int .u64 v] (by kernel_rfl) (print_R v HV.out _) ?_ ?_
        · rintro v wc5 ⟨rfl, rb5⟩
          refine rd_take 17 94 (.bool true) rfl rfl (by kernel_rfl) (by kernel_rfl) (by kernel_rfl) (fun _ _ _ h => h) (by kernel_rfl) (fun w => rd_eqs (s1 := (strOfNums (pr v.toNat))) (s2 := s) rfl (by kernel_rfl) (by kernel_rfl) (by rw [HVB.out]; simp)) ?_
          refine rd_take 18 95 (.bool true) rfl rfl (by kernel_rfl) (by kernel_rfl) (by kernel_rfl) (fun _ _ _ h => h) (by kernel_rfl) (fun w => by kernel_rfl) ?_
          refine rd_take 19 96 (.bool true) rfl rfl (by kernel_rfl) (by kernel_rfl) (by kernel_rfl) (fun _ _ _ h => h) (by kernel_rfl) (fun w => by kernel_rfl) ?_
          refine rd_take 20 97 (.bool true) rfl rfl (by kernel_rfl) (by kernel_rfl) (by kernel_rfl) (fun _ _ _ h => h) (by kernel_rfl) (fun w => by kernel_rfl) ?_
          refine rd_take 21 98 (.bool true) rfl rfl (by kernel_rfl) (by kernel_rfl) (by kernel_rfl) (fun _ _ _ h => h) (by kernel_rfl) (fun w => by kernel_rfl) ?_
          refine rd_take 22 99 (.bool false) rfl rfl (by kernel_rfl) (by kernel_rfl) (by kernel_rfl) (fun _ _ _ h => h) (by kernel_rfl) (fun w => by kernel_rfl) ?_
          refine rd_take 23 100 (.bool false) rfl rfl (by kernel_rfl) (by kernel_rfl) (by kernel_rfl) (fun _ _ _ h => h) (by kernel_rfl) (fun w => by kernel_rfl) ?_
          refine rd_take 24 101 (.int .u64 t) rfl rfl (by kernel_rfl) (by kernel_rfl) (by kernel_rfl) (fun _ _ _ h => h) (by kernel_rfl) (fun w => by kernel_rfl) ?_
          refine rd_take 27 104 (.slice a n c) rfl rfl (by kernel_rfl) (by kernel_rfl) (by kernel_rfl) (fun _ _ _ h => h) (by kernel_rfl) (fun w => by kernel_rfl) ?_
          refine wpAny_ready (rs := [25, 28]) (by kernel_rfl) (by simp) ?_
          refine rd_call 25 102 rfl rfl (by kernel_rfl) 22 #[.int .u64 t] (by kernel_rfl) (key_R t HT.out _) ?_ ?_
          · rintro v wc6 ⟨rg6, rfl, ra6, rb6⟩
            refine wpAny_ready (rs := [26, 28]) (by kernel_rfl) (by simp) ?_
            refine rd_run 26 103 (.string (strOfNums (bek 8 t.toNat))) rfl rfl (by kernel_rfl) (rd_conv rfl (by kernel_rfl) (conv_any (Ag.i (ra6)))) ?_ ?_
            ·
             refine wpAny_ready (rs := [28]) (by kernel_rfl) (by simp) ?_
             refine rd_run 28 105 (.string (strOfNums b)) rfl rfl (by kernel_rfl) (rd_conv rfl (by kernel_rfl) (conv_any (Ag.i (Ag.at (Ag.at (Ag.at (HAG.out.drew) rb1) rb5) rb6)))) ?_ ?_
             ·
              refine rd_take 29 106 (.bool true) rfl rfl (by kernel_rfl) (by kernel_rfl) (by kernel_rfl) (fun _ _ _ h => h) (by kernel_rfl) (fun w => rd_eqs (s1 := (strOfNums (bek 8 t.toNat))) (s2 := (strOfNums b)) rfl (by kernel_rfl) (by kernel_rfl) (by rw [HTB.out]; simp)) ?_
              refine rd_take 30 107 (.bool true) rfl rfl (by kernel_rfl) (by kernel_rfl) (by kernel_rfl) (fun _ _ _ h => h) (by kernel_rfl) (fun w => by kernel_rfl) ?_
              refine rd_take 31 108 (.bool true) rfl rfl (by kernel_rfl) (by kernel_rfl) (by kernel_rfl) (fun _ _ _ h => h) (by kernel_rfl) (fun w => by kernel_rfl) ?_
              refine rd_take 32 6 (.bool true) rfl rfl (by kernel_rfl) (by kernel_rfl) (by kernel_rfl) (fun _ _ _ h => h) (by kernel_rfl) (fun w => by kernel_rfl) ?_
              refine wpAny_done (by kernel_rfl) ?_ _
              exact hk _ _ (end_ret 6 rfl (by kernel_rfl) (by kernel_rfl) (below_go (below_go (below_go HBW.out.drew rb1) rb5) rb6))
             exact AllReady.nil
            refine rd_run 28 105 (.string (strOfNums b)) rfl rfl (by kernel_rfl) (rd_conv rfl (by kernel_rfl) (conv_any (Ag.i (Ag.at (Ag.at (Ag.at (HAG.out.drew) rb1) rb5) rb6)))) ?_ ?_
            ·
             refine wpAny_ready (rs := [26]) (by kernel_rfl) (by simp) ?_
             refine rd_run 26 103 (.string (strOfNums (bek 8 t.toNat))) rfl rfl (by kernel_rfl) (rd_conv rfl (by kernel_rfl) (conv_any (Ag.i (ra6)))) ?_ ?_
             ·
              refine rd_take 29 106 (.bool true) rfl rfl (by kernel_rfl) (by kernel_rfl) (by kernel_rfl) (fun _ _ _ h => h) (by kernel_rfl) (fun w => rd_eqs (s1 := (strOfNums (bek 8 t.toNat))) (s2 := (strOfNums b)) rfl (by kernel_rfl) (by kernel_rfl) (by rw [HTB.out]; simp)) ?_
              refine rd_take 30 107 (.bool true) rfl rfl (by kernel_rfl) (by kernel_rfl) (by kernel_rfl) (fun _ _ _ h => h) (by kernel_rfl) (fun w => by kernel_rfl) ?_
              refine rd_take 31 108 (.bool true) rfl rfl (by kernel_rfl) (by kernel_rfl) (by kernel_rfl) (fun _ _ _ h => h) (by kernel_rfl) (fun w => by kernel_rfl) ?_
              refine rd_take 32 6 (.bool true) rfl rfl (by kernel_rfl) (by kernel_rfl) (by kernel_rfl) (fun _ _ _ h => h) (by kernel_rfl) (fun w => by kernel_rfl) ?_
              refine wpAny_done (by kernel_rfl) ?_ _
              exact hk _ _ (end_ret 6 rfl (by kernel_rfl) (by kernel_rfl) (below_go (below_go (below_go HBW.out.drew rb1) rb5) rb6))
             exact AllReady.nil
            exact AllReady.nil
          refine rd_run 28 105 (.string (strOfNums b)) rfl rfl (by kernel_rfl) (rd_conv rfl (by kernel_rfl) (conv_any (Ag.i (Ag.at (Ag.at (HAG.out.drew) rb1) rb5)))) ?_ ?_
          ·
           refine wpAny_ready (rs := [25]) (by kernel_rfl) (by simp) ?_
           refine rd_call 25 102 rfl rfl (by kernel_rfl) 22 #[.int .u64 t] (by kernel_rfl) (key_R t HT.out _) ?_ ?_
           · rintro v wc7 ⟨rg7, rfl, ra7, rb7⟩
             refine wpAny_ready (rs := [26]) (by kernel_rfl) (by simp) ?_
             refine rd_run 26 103 (.string (strOfNums (bek 8 t.toNat))) rfl rfl (by kernel_rfl) (rd_conv rfl (by kernel_rfl) (conv_any (Ag.i (ra7)))) ?_ ?_
             ·
              refine rd_take 29 106 (.bool true) rfl rfl (by kernel_rfl) (by kernel_rfl) (by kernel_rfl) (fun _ _ _ h => h) (by kernel_rfl) (fun w => rd_eqs (s1 := (strOfNums (bek 8 t.toNat))) (s2 := (strOfNums b)) rfl (by kernel_rfl) (by kernel_rfl) (by rw [HTB.out]; simp)) ?_
              refine rd_take 30 107 (.bool true) rfl rfl (by kernel_rfl) (by kernel_rfl) (by kernel_rfl) (fun _ _ _ h => h) (by kernel_rfl) (fun w => by kernel_rfl) ?_
              refine rd_take 31 108 (.bool true) rfl rfl (by kernel_rfl) (by kernel_rfl) (by kernel_rfl) (fun _ _ _ h => h) (by kernel_rfl) (fun w => by kernel_rfl) ?_
              refine rd_take 32 6 (.bool true) rfl rfl (by kernel_rfl) (by kernel_rfl) (by kernel_rfl) (fun _ _ _ h => h) (by kernel_rfl) (fun w => by kernel_rfl) ?_
              refine wpAny_done (by kernel_rfl) ?_ _
              exact hk _ _ (end_ret 6 rfl (by kernel_rfl) (by kernel_rfl) (below_go (below_go (below_go HBW.out.drew rb1) rb5) rb7))
             exact AllReady.nil
           exact AllReady.nil
          exact AllReady.nil
        exact AllReady.nil
       exact AllReady.nil
      exact AllReady.nil
    refine rd_run 7 84 (.string (strOfNums b)) rfl rfl (by kernel_rfl) (rd_conv rfl (by kernel_rfl) (conv_any (Ag.i (HAG.out.drew)))) ?_ ?_
    ·
     refine wpAny_ready (rs := [4]) (by kernel_rfl) (by simp) ?_
     refine rd_call 4 81 rfl rfl (by kernel_rfl) 17 #[.int .u64 u] (by kernel_rfl) (bytes_R u HU.out _) ?_ ?_
     · rintro v wc8 ⟨rg8, rfl, ra8, rb8⟩
       refine wpAny_ready (rs := [5]) (by kernel_rfl) (by simp) ?_
       refine rd_run 5 82 (.string (strOfNums (be u.toNat))) rfl rfl (by kernel_rfl) (rd_conv rfl (by kernel_rfl) (conv_any (Ag.i (ra8)))) ?_ ?_
       ·
        refine rd_take 8 85 (.bool true) rfl rfl (by kernel_rfl) (by kernel_rfl) (by kernel_rfl) (fun _ _ _ h => h) (by kernel_rfl) (fun w => rd_eqs (s1 := (strOfNums (be u.toNat))) (s2 := (strOfNums b)) rfl (by kernel_rfl) (by kernel_rfl) (by rw [HUB.out]; simp)) ?_
        refine rd_take 9 86 (.bool true) rfl rfl (by kernel_rfl) (by kernel_rfl) (by kernel_rfl) (fun _ _ _ h => h) (by kernel_rfl) (fun w => by kernel_rfl) ?_
        refine rd_take 10 87 (.bool true) rfl rfl (by kernel_rfl) (by kernel_rfl) (by kernel_rfl) (fun _ _ _ h => h) (by kernel_rfl) (fun w => by kernel_rfl) ?_
        refine rd_take 11 88 (.bool true) rfl rfl (by kernel_rfl) (by kernel_rfl) (by kernel_rfl) (fun _ _ _ h => h) (by kernel_rfl) (fun w => by kernel_rfl) ?_
        refine rd_take 12 89 (.bool false) rfl rfl (by kernel_rfl) (by kernel_rfl) (by kernel_rfl) (fun _ _ _ h => h) (by kernel_rfl) (fun w => by kernel_rfl) ?_
        refine rd_take 13 90 (.bool false) rfl rfl (by kernel_rfl) (by kernel_rfl) (by kernel_rfl) (fun _ _ _ h => h) (by kernel_rfl) (fun w => by kernel_rfl) ?_
        refine rd_take 14 91 (.int .u64 v) rfl rfl (by kernel_rfl) (by kernel_rfl) (by kernel_rfl) (fun _ _ _ h => h) (by kernel_rfl) (fun w => by kernel_rfl) ?_
        refine rd_take 16 93 (.string s) rfl rfl (by kernel_rfl) (by kernel_rfl) (by kernel_rfl) (fun _ _ _ h => h) (by kernel_rfl) (fun w => by kernel_rfl) ?_
        refine wpAny_ready (rs := [15]) (by kernel_rfl) (by simp) ?_
        refine rd_call 15 92 rfl rfl (by kernel_rfl) 26 #[.int .u64 v] (by kernel_rfl) (print_R v HV.out _) ?_ ?_
        · rintro v wc9 ⟨rfl, rb9⟩
          refine rd_take 17 94 (.bool true) rfl rfl (by kernel_rfl) (by kernel_rfl) (by kernel_rfl) (fun _ _ _ h => h) (by kernel_rfl) (fun w => rd_eqs (s1 := (strOfNums (pr v.toNat))) (s2 := s) rfl (by kernel_rfl) (by kernel_rfl) (by rw [HVB.out]; simp)) ?_
          refine rd_take 18 95 (.bool true) rfl rfl (by kernel_rfl) (by kernel_rfl) (by kernel_rfl) (fun _ _ _ h => h) (by kernel_rfl) (fun w => by kernel_rfl) ?_
          refine rd_take 19 96 (.bool true) rfl rfl (by kernel_rfl) (by kernel_rfl) (by kernel_rfl) (fun _ _ _ h => h) (by kernel_rfl) (fun w => by kernel_rfl) ?_
          refine rd_take 20 97 (.bool true) rfl rfl (by kernel_rfl) (by kernel_rfl) (by kernel_rfl) (fun _ _ _ h => h) (by kernel_rfl) (fun w => by kernel_rfl) ?_
          refine rd_take 21 98 (.bool true) rfl rfl (by kernel_rfl) (by kernel_rfl) (by kernel_rfl) (fun _ _ _ h => h) (by kernel_rfl) (fun w => by kernel_rfl) ?_
          refine rd_take 22 99 (.bool false) rfl rfl (by kernel_rfl) (by kernel_rfl) (by kernel_rfl) (fun _ _ _ h => h) (by kernel_rfl) (fun w => by kernel_rfl) ?_
          refine rd_take 23 100 (.bool false) rfl rfl (by kernel_rfl) (by kernel_rfl) (by kernel_rfl) (fun _ _ _ h => h) (by kernel_rfl) (fun w => by kernel_rfl) ?_
          refine rd_take 24 101 (.int .u64 t) rfl rfl (by kernel_rfl) (by kernel_rfl) (by kernel_rfl) (fun _ _ _ h => h) (by kernel_rfl) (fun w => by kernel_rfl) ?_
          refine rd_take 27 104 (.slice a n c) rfl rfl (by kernel_rfl) (by kernel_rfl) (by kernel_rfl) (fun _ _ _ h => h) (by kernel_rfl) (fun w => by kernel_rfl) ?_
          refine wpAny_ready (rs := [25, 28]) (by kernel_rfl) (by simp) ?_
          refine rd_call 25 102 rfl rfl (by kernel_rfl) 22 #[.int .u64 t] (by kernel_rfl) (key_R t HT.out _) ?_ ?_
          · rintro v wc10 ⟨rg10, rfl, ra10, rb10⟩
            refine wpAny_ready (rs := [26, 28]) (by kernel_rfl) (by simp) ?_
            refine rd_run 26 103 (.string (strOfNums (bek 8 t.toNat))) rfl rfl (by kernel_rfl) (rd_conv rfl (by kernel_rfl) (conv_any (Ag.i (ra10)))) ?_ ?_
            ·
             refine wpAny_ready (rs := [28]) (by kernel_rfl) (by simp) ?_
             refine rd_run 28 105 (.string (strOfNums b)) rfl rfl (by kernel_rfl) (rd_conv rfl (by kernel_rfl) (conv_any (Ag.i (Ag.at (Ag.at (Ag.at (HAG.out.drew) rb8) rb9) rb10)))) ?_ ?_
             ·
              refine rd_take 29 106 (.bool true) rfl rfl (by kernel_rfl) (by kernel_rfl) (by kernel_rfl) (fun _ _ _ h => h) (by kernel_rfl) (fun w => rd_eqs (s1 := (strOfNums (bek 8 t.toNat))) (s2 := (strOfNums b)) rfl (by kernel_rfl) (by kernel_rfl) (by rw [HTB.out]; simp)) ?_
              refine rd_take 30 107 (.bool true) rfl rfl (by kernel_rfl) (by kernel_rfl) (by kernel_rfl) (fun _ _ _ h => h) (by kernel_rfl) (fun w => by kernel_rfl) ?_
              refine rd_take 31 108 (.bool true) rfl rfl (by kernel_rfl) (by kernel_rfl) (by kernel_rfl) (fun _ _ _ h => h) (by kernel_rfl) (fun w => by kernel_rfl) ?_
              refine rd_take 32 6 (.bool true) rfl rfl (by kernel_rfl) (by kernel_rfl) (by kernel_rfl) (fun _ _ _ h => h) (by kernel_rfl) (fun w => by kernel_rfl) ?_
              refine wpAny_done (by kernel_rfl) ?_ _
              exact hk _ _ (end_ret 6 rfl (by kernel_rfl) (by kernel_rfl) (below_go (below_go (below_go HBW.out.drew rb8) rb9) rb10))
             exact AllReady.nil
            refine rd_run 28 105 (.string (strOfNums b)) rfl rfl (by kernel_rfl) (rd_conv rfl (by kernel_rfl) (conv_any (Ag.i (Ag.at (Ag.at (Ag.at (HAG.out.drew) rb8) rb9) rb10)))) ?_ ?_
            ·
             refine wpAny_ready (rs := [26]) (by kernel_rfl) (by simp) ?_
             refine rd_run 26 103 (.string (strOfNums (bek 8 t.toNat))) rfl rfl (by kernel_rfl) (rd_conv rfl (by kernel_rfl) (conv_any (Ag.i (ra10)))) ?_ ?_
             ·
              refine rd_take 29 106 (.bool true) rfl rfl (by kernel_rfl) (by kernel_rfl) (by kernel_rfl) (fun _ _ _ h => h) (by kernel_rfl) (fun w => rd_eqs (s1 := (strOfNums (bek 8 t.toNat))) (s2 := (strOfNums b)) rfl (by kernel_rfl) (by kernel_rfl) (by rw [HTB.out]; simp)) ?_
              refine rd_take 30 107 (.bool true) rfl rfl (by kernel_rfl) (by kernel_rfl) (by kernel_rfl) (fun _ _ _ h => h) (by kernel_rfl) (fun w => by kernel_rfl) ?_
              refine rd_take 31 108 (.bool true) rfl rfl (by kernel_rfl) (by kernel_rfl) (by kernel_rfl) (fun _ _ _ h => h) (by kernel_rfl) (fun w => by kernel_rfl) ?_
              refine rd_take 32 6 (.bool true) rfl rfl (by kernel_rfl) (by kernel_rfl) (by kernel_rfl) (fun _ _ _ h => h) (by kernel_rfl) (fun w => by kernel_rfl) ?_
              refine wpAny_done (by kernel_rfl) ?_ _
              exact hk _ _ (end_ret 6 rfl (by kernel_rfl) (by kernel_rfl) (below_go (below_go (below_go HBW.out.drew rb8) rb9) rb10))
             exact AllReady.nil
            exact AllReady.nil
          refine rd_run 28 105 (.string (strOfNums b)) rfl rfl (by kernel_rfl) (rd_conv rfl (by kernel_rfl) (conv_any (Ag.i (Ag.at (Ag.at (HAG.out.drew) rb8) rb9)))) ?_ ?_
          ·
           refine wpAny_ready (rs := [25]) (by kernel_rfl) (by simp) ?_
           refine rd_call 25 102 rfl rfl (by kernel_rfl) 22 #[.int .u64 t] (by kernel_rfl) (key_R t HT.out _) ?_ ?_
           · rintro v wc11 ⟨rg11, rfl, ra11, rb11⟩
             refine wpAny_ready (rs := [26]) (by kernel_rfl) (by simp) ?_
             refine rd_run 26 103 (.string (strOfNums (bek 8 t.toNat))) rfl rfl (by kernel_rfl) (rd_conv rfl (by kernel_rfl) (conv_any (Ag.i (ra11)))) ?_ ?_
             ·
              refine rd_take 29 106 (.bool true) rfl rfl (by kernel_rfl) (by kernel_rfl) (by kernel_rfl) (fun _ _ _ h => h) (by kernel_rfl) (fun w => rd_eqs (s1 := (strOfNums (bek 8 t.toNat))) (s2 := (strOfNums b)) rfl (by kernel_rfl) (by kernel_rfl) (by rw [HTB.out]; simp)) ?_
              refine rd_take 30 107 (.bool true) rfl rfl (by kernel_rfl) (by kernel_rfl) (by kernel_rfl) (fun _ _ _ h => h) (by kernel_rfl) (fun w => by kernel_rfl) ?_
              refine rd_take 31 108 (.bool true) rfl rfl (by kernel_rfl) (by kernel_rfl) (by kernel_rfl) (fun _ _ _ h => h) (by kernel_rfl) (fun w => by kernel_rfl) ?_
              refine rd_take 32 6 (.bool true) rfl rfl (by kernel_rfl) (by kernel_rfl) (by kernel_rfl) (fun _ _ _ h => h) (by kernel_rfl) (fun w => by kernel_rfl) ?_
              refine wpAny_done (by kernel_rfl) ?_ _
              exact hk _ _ (end_ret 6 rfl (by kernel_rfl) (by kernel_rfl) (below_go (below_go (below_go HBW.out.drew rb8) rb9) rb11))
             exact AllReady.nil
           exact AllReady.nil
          exact AllReady.nil
        exact AllReady.nil
       exact AllReady.nil
     exact AllReady.nil
    exact AllReady.nil
end Go.Proofs.Yticbfhfmigdhiaa

/- That WordsBytes answers true. -/
import Derived.Test.YticbfhfmigdhiaaX0
namespace Go.Proofs.Yticbfhfmigdhiaa
open Go.RowKit
set_option linter.unusedVariables false
theorem cut_at {K : Act → World → Prop} {Q : Exit → Act → World → Prop} {a F : Act} {w : World} (h : a = F) (hk : K F w) : Exit.then K Q .normal a w := by
  subst h
  exact hk
set_option maxHeartbeats 8000000 in
theorem bytes_law (x : Int) (a : Option Addr) (n c : Nat) (b : List Int) (hx : 0 ≤ x ∧ x < 18446744073709551616) (hn : n ≤ 140737488351232) (w : World) (hag : Ag w a n c b) :
    Calls Try.prog 4 #[.int .u64 x, .slice a n c] w fun e w' => e = .returned (.bool true) ∧ Below w.heap.size w w' := by
  have HX := Hid.mk hx
  have HA := Hid.mk hag
  have H1 := Hid.mk (bytes_any x hx.1 hx.2)
  clear hx hag
  go_enter Try.func4, Try.ntmps4
  go_wp2_with (first | (at_builtin; refine app_any rfl (.tmp 13) (.tmp 14) rfl w.heap.size _ [] rfl (OwnB.new w) a n c b rfl (HA.out.at ((Below.refl _ _).alloc (Nat.le_refl _) _)).i HA.out.nil HA.out.l (by simp; omega) (by simp) ?_; intro v1 w1 o1 hb1; rw [List.nil_append] at o1; obtain ⟨a1, c1, rfl, hag1⟩ := OwnB.ag o1 HA.out.b; rw [HA.out.l] at hag1 ⊢; have HB1 := Hid.mk (((Below.refl w.heap.size w).alloc (Nat.le_refl _) _).trans hb1); have HA1 := Hid.mk hag1; clear o1 hb1 hag1))
  refine (read_any a1 n c1 b w1 HA1.out hn).mono ?_
  rintro e w2 ⟨rfl, rfl⟩
  have H2 := Hid.mk (rread_any a n c b w2 (HA.out.at HB1.out) hn)
  generalize rdP b = r at *
  obtain ⟨r1, r2⟩ := r
  simp only at H2 ⊢
  generalize ((r1 : Nat) : Int) = q at *
  go_wp2_with fail
  refine H2.out.mono ?_
  rintro e w3 ⟨rfl, hb3⟩
  have HB3 := Hid.mk hb3
  clear hb3 H2
  go_wp2_with fail
  refine (H1.out w3).mono ?_
  rintro e w4 ⟨rfl, hr4, hb4⟩
  have HB4 := Hid.mk hb4
  have HR4 := Hid.mk hr4
  obtain ⟨g, hg⟩ : ∃ g, w3.heap.size = g := ⟨_, rfl⟩
  rw [hg] at HR4 ⊢
  have HG : Hid (w.heap.size ≤ g) := Hid.mk (by rw [← hg]; exact Nat.le_trans HB1.out.size HB3.out.size)
  have HAG : Hid (Ag w4 (some ⟨g, 0, none⟩) (nb x.toNat) (nb x.toNat) (be x.toNat)) := Hid.mk (row_ag HR4.out (be_len _) (be_bd _) (by have := nb8 (n := x.toNat) (by have := HX.out; omega); omega))
  have HGV : Hid (Ag w4 a1 n c1 b) := Hid.mk ((HA1.out.at HB3.out).at HB4.out)
  have HAR : Hid (Ag w4 a n c b) := Hid.mk (((HA.out.at HB1.out).at HB3.out).at HB4.out)
  have HBW : Hid (Below w.heap.size w w4) := Hid.mk (below_go (below_go HB1.out HB3.out) HB4.out)
  clear hb4 hr4 hg HB1 HA1 HB3 HB4 HA H1
  have HKL : Hid (nb x.toNat ≤ 8 ∧ (be x.toNat).length = nb x.toNat) := Hid.mk ⟨nb8 (by have := HX.out; omega), be_len _⟩
  obtain ⟨k, hkk⟩ : ∃ k, nb x.toNat = k := ⟨_, rfl⟩
  rw [hkk] at HKL HAG ⊢
  clear hkk
  go_wp2_with fail
  rename_i K hk
  have HK8 : Hid (k ≤ 8 ∧ (be x.toNat).length = k) := Hid.mk HKL.out
  have hrest : ∀ (z28 z29 z30 z31 z32 z33 z34 z35 z36 z37 z38 z39 z40 : Value) {v : World}, Row g v (be x.toNat) → Below w.heap.size w v → K ⟨#[.int .u64 x, .slice a n c, undef, undef, .bool false, .slice a1 n c1, .int .u64 q, .bool r2, .int .u64 q, .bool r2, .slice (some ⟨g, 0, none⟩) k k, .bool true, undef, .slice (some ⟨w.heap.size, 0, none⟩) 0 0, .slice a n c, .slice a1 n c1, .tuple #[.int .u64 q, .bool r2], .slice a1 n c1, .tuple #[.int .u64 q, .bool r2], .int .u64 q, .bool r2, .tuple #[.int .u64 q, .bool r2], .slice a n c, .tuple #[.int .u64 q, .bool r2], .int .u64 q, .bool r2, .int .u64 x, .slice (some ⟨g, 0, none⟩) k k, z28, z29, z30, z31, z32, z33, z34, z35, z36, z37, z38, z39, z40, undef, undef, undef, undef, undef, undef, undef, undef, undef, undef, undef, undef, undef, undef, undef, undef, undef, undef, undef, undef, undef, undef, undef, undef, undef, undef, undef, undef, undef, undef, undef, undef], []⟩ v := by
    intro z28 z29 z30 z31 z32 z33 z34 z35 z36 z37 z38 z39 z40 v hrow hbel
    refine hk _ _ ?_
    have HRV := Hid.mk hrow
    have HBV := Hid.mk hbel
    clear hrow hbel hk HR4 HGV HAR HBW HAG
    obtain ⟨hk8, hkl⟩ := HK8.out
    have HKK := Hid.mk hkl
    clear hkl
    go_wp2_with fail
    go_loopw [43] (fun i v => ∃ (j : Nat) (L : List Int), j ≤ k ∧ i = .int .i64 j ∧ L.length = k ∧ Row g v L ∧ Below w.heap.size w v) (fun i _ => k - (intOf i).toNat)
    case atStart => exact ⟨0, _, by omega, rfl, HKK.out, HRV.out, HBV.out⟩
    case round =>
      clear HRV HBV
      obtain ⟨j, L, hj, rfl, hL, hrow, hbel⟩ := hrel
      have HBV := Hid.mk hbel
      clear hbel
      by_cases hlt : j < k
      · have hji : (j : Int) < k := by omega
        have hcell := hrow.cell (i := j) (by omega)
        have hfz := hrow.frozen j
        generalize L.getD j 0 = old at hcell
        have HS := Hid.mk (hrow.set j 99)
        have HL2 : Hid ((L.set j 99).length = k) := Hid.mk (by rw [List.length_set]; exact hL)
        clear hrow hL
        go_wp2_with fail
        exact ⟨⟨j + 1, _, by omega, by simp, HL2.out, HS.out, HBV.out.setCell HG.out _⟩, by simp [intOf]; omega⟩
      · have hji : ¬ (j : Int) < k := by omega
        clear hrow hL
        go_wp2_with fail
        rename_i K2 hk2
        refine wp_region_any (by kernel_rfl) ?_
        try (change wpAny _ _ _ _ _ _ _ (World.drew _))
        refine wpAny_ready (rs := [0]) (by kernel_rfl) (by simp) ?_
        refine rd_call 0 50 rfl rfl (by kernel_rfl) 19 #[] (by kernel_rfl) (alive_R _) ?_ ?_
        · rintro v wc1 ⟨rfl, rb1⟩
          refine rd_take 1 51 (.bool true) rfl rfl (by kernel_rfl) (by kernel_rfl) (by kernel_rfl) (fun _ _ _ h => h) (by kernel_rfl) (fun w => by kernel_rfl) ?_
          refine rd_take 2 52 (.int .u64 q) rfl rfl (by kernel_rfl) (by kernel_rfl) (by kernel_rfl) (fun _ _ _ h => h) (by kernel_rfl) (fun w => by kernel_rfl) ?_
          refine rd_take 3 53 (.int .u64 q) rfl rfl (by kernel_rfl) (by kernel_rfl) (by kernel_rfl) (fun _ _ _ h => h) (by kernel_rfl) (fun w => by kernel_rfl) ?_
          refine rd_take 4 54 (.bool true) rfl rfl (by kernel_rfl) (by kernel_rfl) (by kernel_rfl) (fun _ _ _ h => h) (by kernel_rfl) (fun w => rd_eqi (p := q) (q := q) rfl (by kernel_rfl) (by kernel_rfl) (by simp)) ?_
          refine rd_take 5 55 (.bool true) rfl rfl (by kernel_rfl) (by kernel_rfl) (by kernel_rfl) (fun _ _ _ h => h) (by kernel_rfl) (fun w => by kernel_rfl) ?_
          refine rd_take 6 56 (.bool true) rfl rfl (by kernel_rfl) (by kernel_rfl) (by kernel_rfl) (fun _ _ _ h => h) (by kernel_rfl) (fun w => by kernel_rfl) ?_
          refine rd_take 7 57 (.bool r2) rfl rfl (by kernel_rfl) (by kernel_rfl) (by kernel_rfl) (fun _ _ _ h => h) (by kernel_rfl) (fun w => by kernel_rfl) ?_
          refine rd_take 8 58 (.bool r2) rfl rfl (by kernel_rfl) (by kernel_rfl) (by kernel_rfl) (fun _ _ _ h => h) (by kernel_rfl) (fun w => by kernel_rfl) ?_
          refine rd_take 9 59 (.bool true) rfl rfl (by kernel_rfl) (by kernel_rfl) (by kernel_rfl) (fun _ _ _ h => h) (by kernel_rfl) (fun w => rd_eqb (p := r2) (q := r2) rfl (by kernel_rfl) (by kernel_rfl) (by simp)) ?_
          refine rd_take 10 60 (.bool true) rfl rfl (by kernel_rfl) (by kernel_rfl) (by kernel_rfl) (fun _ _ _ h => h) (by kernel_rfl) (fun w => by kernel_rfl) ?_
          refine rd_take 11 61 (.bool true) rfl rfl (by kernel_rfl) (by kernel_rfl) (by kernel_rfl) (fun _ _ _ h => h) (by kernel_rfl) (fun w => by kernel_rfl) ?_
          refine rd_take 12 62 (.bool true) rfl rfl (by kernel_rfl) (by kernel_rfl) (by kernel_rfl) (fun _ _ _ h => h) (by kernel_rfl) (fun w => by kernel_rfl) ?_
          refine rd_take 13 63 (.bool true) rfl rfl (by kernel_rfl) (by kernel_rfl) (by kernel_rfl) (fun _ _ _ h => h) (by kernel_rfl) (fun w => by kernel_rfl) ?_
          refine rd_take 14 64 (.bool true) rfl rfl (by kernel_rfl) (by kernel_rfl) (by kernel_rfl) (fun _ _ _ h => h) (by kernel_rfl) (fun w => by kernel_rfl) ?_
          refine rd_take 15 65 (.int .u64 x) rfl rfl (by kernel_rfl) (by kernel_rfl) (by kernel_rfl) (fun _ _ _ h => h) (by kernel_rfl) (fun w => by kernel_rfl) ?_
          refine rd_take 18 68 (.int .u64 x) rfl rfl (by kernel_rfl) (by kernel_rfl) (by kernel_rfl) (fun _ _ _ h => h) (by kernel_rfl) (fun w => by kernel_rfl) ?_
          refine wpAny_ready (rs := [16]) (by kernel_rfl) (by simp) ?_
          refine rd_call 16 66 rfl rfl (by kernel_rfl) 17 #[.int .u64 x] (by kernel_rfl) (bytes_R x HX.out _) ?_ ?_
          · rintro v wc2 ⟨rg2, rfl, ra2, rb2⟩
            refine wpAny_ready (rs := [17, 19]) (by kernel_rfl) (by simp) ?_
            refine rd_run 17 67 (.string (strOfNums (be x.toNat))) rfl rfl (by kernel_rfl) (rd_conv rfl (by kernel_rfl) (conv_any (Ag.i (ra2)))) ?_ ?_
            ·
             refine wpAny_ready (rs := [19]) (by kernel_rfl) (by simp) ?_
             refine rd_call 19 69 rfl rfl (by kernel_rfl) 18 #[.int .u64 x] (by kernel_rfl) (rbytes_R x HX.out _) ?_ ?_
             · rintro v wc3 ⟨rg3, rc3, rfl, ra3, rb3⟩
               refine wpAny_ready (rs := [20]) (by kernel_rfl) (by simp) ?_
               refine rd_run 20 70 (.string (strOfNums (be x.toNat))) rfl rfl (by kernel_rfl) (rd_conv rfl (by kernel_rfl) (conv_any (Ag.i (ra3)))) ?_ ?_
               ·
                refine rd_take 21 71 (.bool true) rfl rfl (by kernel_rfl) (by kernel_rfl) (by kernel_rfl) (fun _ _ _ h => h) (by kernel_rfl) (fun w => rd_eqs (s1 := (strOfNums (be x.toNat))) (s2 := (strOfNums (be x.toNat))) rfl (by kernel_rfl) (by kernel_rfl) (by simp)) ?_
                refine rd_take 22 72 (.bool true) rfl rfl (by kernel_rfl) (by kernel_rfl) (by kernel_rfl) (fun _ _ _ h => h) (by kernel_rfl) (fun w => by kernel_rfl) ?_
                refine rd_take 23 4 (.bool true) rfl rfl (by kernel_rfl) (by kernel_rfl) (by kernel_rfl) (fun _ _ _ h => h) (by kernel_rfl) (fun w => by kernel_rfl) ?_
                refine wpAny_done (by kernel_rfl) ?_ _
                exact hk2 _ _ (end_ret 4 rfl (by kernel_rfl) (by kernel_rfl) (below_go (below_go (below_go HBV.out.drew rb1) rb2) rb3))
               exact AllReady.nil
             exact AllReady.nil
            refine rd_call 19 69 rfl rfl (by kernel_rfl) 18 #[.int .u64 x] (by kernel_rfl) (rbytes_R x HX.out _) ?_ ?_
            · rintro v wc4 ⟨rg4, rc4, rfl, ra4, rb4⟩
              refine wpAny_ready (rs := [17, 20]) (by kernel_rfl) (by simp) ?_
              refine rd_run 17 67 (.string (strOfNums (be x.toNat))) rfl rfl (by kernel_rfl) (rd_conv rfl (by kernel_rfl) (conv_any (Ag.i (Ag.at (ra2) rb4)))) ?_ ?_
              ·
               refine wpAny_ready (rs := [20]) (by kernel_rfl) (by simp) ?_
               refine rd_run 20 70 (.string (strOfNums (be x.toNat))) rfl rfl (by kernel_rfl) (rd_conv rfl (by kernel_rfl) (conv_any (Ag.i (ra4)))) ?_ ?_
               ·
                refine rd_take 21 71 (.bool true) rfl rfl (by kernel_rfl) (by kernel_rfl) (by kernel_rfl) (fun _ _ _ h => h) (by kernel_rfl) (fun w => rd_eqs (s1 := (strOfNums (be x.toNat))) (s2 := (strOfNums (be x.toNat))) rfl (by kernel_rfl) (by kernel_rfl) (by simp)) ?_
                refine rd_take 22 72 (.bool true) rfl rfl (by kernel_rfl) (by kernel_rfl) (by kernel_rfl) (fun _ _ _ h => h) (by kernel_rfl) (fun w => by kernel_rfl) ?_
                refine rd_take 23 4 (.bool true) rfl rfl (by kernel_rfl) (by kernel_rfl) (by kernel_rfl) (fun _ _ _ h => h) (by kernel_rfl) (fun w => by kernel_rfl) ?_
                refine wpAny_done (by kernel_rfl) ?_ _
                exact hk2 _ _ (end_ret 4 rfl (by kernel_rfl) (by kernel_rfl) (below_go (below_go (below_go HBV.out.drew rb1) rb2) rb4))
               exact AllReady.nil
              refine rd_run 20 70 (.string (strOfNums (be x.toNat))) rfl rfl (by kernel_rfl) (rd_conv rfl (by kernel_rfl) (conv_any (Ag.i (ra4)))) ?_ ?_
              ·
               refine wpAny_ready (rs := [17]) (by kernel_rfl) (by simp) ?_
               refine rd_run 17 67 (.string (strOfNums (be x.toNat))) rfl rfl (by kernel_rfl) (rd_conv rfl (by kernel_rfl) (conv_any (Ag.i (Ag.at (ra2) rb4)))) ?_ ?_
               ·
                refine rd_take 21 71 (.bool true) rfl rfl (by kernel_rfl) (by kernel_rfl) (by kernel_rfl) (fun _ _ _ h => h) (by kernel_rfl) (fun w => rd_eqs (s1 := (strOfNums (be x.toNat))) (s2 := (strOfNums (be x.toNat))) rfl (by kernel_rfl) (by kernel_rfl) (by simp)) ?_
                refine rd_take 22 72 (.bool true) rfl rfl (by kernel_rfl) (by kernel_rfl) (by kernel_rfl) (fun _ _ _ h => h) (by kernel_rfl) (fun w => by kernel_rfl) ?_
                refine rd_take 23 4 (.bool true) rfl rfl (by kernel_rfl) (by kernel_rfl) (by kernel_rfl) (fun _ _ _ h => h) (by kernel_rfl) (fun w => by kernel_rfl) ?_
                refine wpAny_done (by kernel_rfl) ?_ _
                exact hk2 _ _ (end_ret 4 rfl (by kernel_rfl) (by kernel_rfl) (below_go (below_go (below_go HBV.out.drew rb1) rb2) rb4))
               exact AllReady.nil
              exact AllReady.nil
            exact AllReady.nil
          exact AllReady.nil
        exact AllReady.nil
  refine wp_region_any (by kernel_rfl) ?_
  try (change wpAny _ _ _ _ _ _ _ (World.drew _))
  refine rd_take 0 28 (.slice (some ⟨g, 0, none⟩) k k) rfl rfl (by kernel_rfl) (by kernel_rfl) (by kernel_rfl) (fun _ _ _ h => h) (by kernel_rfl) (fun w => by kernel_rfl) ?_
  refine rd_take 2 30 (.int .u64 x) rfl rfl (by kernel_rfl) (by kernel_rfl) (by kernel_rfl) (fun _ _ _ h => h) (by kernel_rfl) (fun w => by kernel_rfl) ?_
  refine wpAny_ready (rs := [1, 3]) (by kernel_rfl) (by simp) ?_
  refine rd_run 1 29 (.string (strOfNums (be x.toNat))) rfl rfl (by kernel_rfl) (rd_conv rfl (by kernel_rfl) (conv_any (Ag.i (HAG.out.drew)))) ?_ ?_
  ·
   refine wpAny_ready (rs := [3]) (by kernel_rfl) (by simp) ?_
   refine rd_call 3 31 rfl rfl (by kernel_rfl) 18 #[.int .u64 x] (by kernel_rfl) (rbytes_R x HX.out _) ?_ ?_
   · rintro v wc1 ⟨rg1, rc1, rfl, ra1, rb1⟩
     refine wpAny_ready (rs := [4]) (by kernel_rfl) (by simp) ?_
     refine rd_run 4 32 (.string (strOfNums (be x.toNat))) rfl rfl (by kernel_rfl) (rd_conv rfl (by kernel_rfl) (conv_any (Ag.i (ra1)))) ?_ ?_
     ·
      refine rd_take 5 33 (.bool true) rfl rfl (by kernel_rfl) (by kernel_rfl) (by kernel_rfl) (fun _ _ _ h => h) (by kernel_rfl) (fun w => rd_eqs (s1 := (strOfNums (be x.toNat))) (s2 := (strOfNums (be x.toNat))) rfl (by kernel_rfl) (by kernel_rfl) (by simp)) ?_
      refine rd_take 6 34 (.bool true) rfl rfl (by kernel_rfl) (by kernel_rfl) (by kernel_rfl) (fun _ _ _ h => h) (by kernel_rfl) (fun w => by kernel_rfl) ?_
      refine rd_take 7 35 (.slice a1 n c1) rfl rfl (by kernel_rfl) (by kernel_rfl) (by kernel_rfl) (fun _ _ _ h => h) (by kernel_rfl) (fun w => by kernel_rfl) ?_
      refine rd_take 9 37 (.slice a n c) rfl rfl (by kernel_rfl) (by kernel_rfl) (by kernel_rfl) (fun _ _ _ h => h) (by kernel_rfl) (fun w => by kernel_rfl) ?_
      refine wpAny_ready (rs := [8, 10]) (by kernel_rfl) (by simp) ?_
      refine rd_run 8 36 (.string (strOfNums b)) rfl rfl (by kernel_rfl) (rd_conv rfl (by kernel_rfl) (conv_any (Ag.i (Ag.at (HGV.out.drew) rb1)))) ?_ ?_
      ·
       refine wpAny_ready (rs := [10]) (by kernel_rfl) (by simp) ?_
       refine rd_run 10 38 (.string (strOfNums b)) rfl rfl (by kernel_rfl) (rd_conv rfl (by kernel_rfl) (conv_any (Ag.i (Ag.at (HAR.out.drew) rb1)))) ?_ ?_
       ·
        refine rd_take 11 39 (.bool true) rfl rfl (by kernel_rfl) (by kernel_rfl) (by kernel_rfl) (fun _ _ _ h => h) (by kernel_rfl) (fun w => rd_eqs (s1 := (strOfNums b)) (s2 := (strOfNums b)) rfl (by kernel_rfl) (by kernel_rfl) (by simp)) ?_
        refine rd_take 12 40 (.bool true) rfl rfl (by kernel_rfl) (by kernel_rfl) (by kernel_rfl) (fun _ _ _ h => h) (by kernel_rfl) (fun w => by kernel_rfl) ?_
        refine rd_take 13 11 (.bool true) rfl rfl (by kernel_rfl) (by kernel_rfl) (by kernel_rfl) (fun _ _ _ h => h) (by kernel_rfl) (fun w => by kernel_rfl) ?_
        refine wpAny_done (by kernel_rfl) ?_ _
        exact cut_at (F := ⟨#[.int .u64 x, .slice a n c, undef, undef, .bool false, .slice a1 n c1, .int .u64 q, .bool r2, .int .u64 q, .bool r2, .slice (some ⟨g, 0, none⟩) k k, .bool true, undef, .slice (some ⟨w.heap.size, 0, none⟩) 0 0, .slice a n c, .slice a1 n c1, .tuple #[.int .u64 q, .bool r2], .slice a1 n c1, .tuple #[.int .u64 q, .bool r2], .int .u64 q, .bool r2, .tuple #[.int .u64 q, .bool r2], .slice a n c, .tuple #[.int .u64 q, .bool r2], .int .u64 q, .bool r2, .int .u64 x, .slice (some ⟨g, 0, none⟩) k k, .slice (some ⟨g, 0, none⟩) k k, .string (strOfNums (be x.toNat)), .int .u64 x, .slice rg1 (nb x.toNat) rc1, .string (strOfNums (be x.toNat)), .bool true, .bool true, .slice a1 n c1, .string (strOfNums b), .slice a n c, .string (strOfNums b), .bool true, .bool true, undef, undef, undef, undef, undef, undef, undef, undef, undef, undef, undef, undef, undef, undef, undef, undef, undef, undef, undef, undef, undef, undef, undef, undef, undef, undef, undef, undef, undef, undef, undef, undef], []⟩) (by kernel_rfl) (hrest _ _ _ _ _ _ _ _ _ _ _ _ _ (Below.row rb1 HR4.out) (below_go HBW.out.drew rb1))
       exact AllReady.nil
      refine rd_run 10 38 (.string (strOfNums b)) rfl rfl (by kernel_rfl) (rd_conv rfl (by kernel_rfl) (conv_any (Ag.i (Ag.at (HAR.out.drew) rb1)))) ?_ ?_
      ·
       refine wpAny_ready (rs := [8]) (by kernel_rfl) (by simp) ?_
       refine rd_run 8 36 (.string (strOfNums b)) rfl rfl (by kernel_rfl) (rd_conv rfl (by kernel_rfl) (conv_any (Ag.i (Ag.at (HGV.out.drew) rb1)))) ?_ ?_
       ·
        refine rd_take 11 39 (.bool true) rfl rfl (by kernel_rfl) (by kernel_rfl) (by kernel_rfl) (fun _ _ _ h => h) (by kernel_rfl) (fun w => rd_eqs (s1 := (strOfNums b)) (s2 := (strOfNums b)) rfl (by kernel_rfl) (by kernel_rfl) (by simp)) ?_
        refine rd_take 12 40 (.bool true) rfl rfl (by kernel_rfl) (by kernel_rfl) (by kernel_rfl) (fun _ _ _ h => h) (by kernel_rfl) (fun w => by kernel_rfl) ?_
        refine rd_take 13 11 (.bool true) rfl rfl (by kernel_rfl) (by kernel_rfl) (by kernel_rfl) (fun _ _ _ h => h) (by kernel_rfl) (fun w => by kernel_rfl) ?_
        refine wpAny_done (by kernel_rfl) ?_ _
        exact cut_at (F := ⟨#[.int .u64 x, .slice a n c, undef, undef, .bool false, .slice a1 n c1, .int .u64 q, .bool r2, .int .u64 q, .bool r2, .slice (some ⟨g, 0, none⟩) k k, .bool true, undef, .slice (some ⟨w.heap.size, 0, none⟩) 0 0, .slice a n c, .slice a1 n c1, .tuple #[.int .u64 q, .bool r2], .slice a1 n c1, .tuple #[.int .u64 q, .bool r2], .int .u64 q, .bool r2, .tuple #[.int .u64 q, .bool r2], .slice a n c, .tuple #[.int .u64 q, .bool r2], .int .u64 q, .bool r2, .int .u64 x, .slice (some ⟨g, 0, none⟩) k k, .slice (some ⟨g, 0, none⟩) k k, .string (strOfNums (be x.toNat)), .int .u64 x, .slice rg1 (nb x.toNat) rc1, .string (strOfNums (be x.toNat)), .bool true, .bool true, .slice a1 n c1, .string (strOfNums b), .slice a n c, .string (strOfNums b), .bool true, .bool true, undef, undef, undef, undef, undef, undef, undef, undef, undef, undef, undef, undef, undef, undef, undef, undef, undef, undef, undef, undef, undef, undef, undef, undef, undef, undef, undef, undef, undef, undef, undef, undef], []⟩) (by kernel_rfl) (hrest _ _ _ _ _ _ _ _ _ _ _ _ _ (Below.row rb1 HR4.out) (below_go HBW.out.drew rb1))
       exact AllReady.nil
      exact AllReady.nil
     exact AllReady.nil
   exact AllReady.nil
  refine rd_call 3 31 rfl rfl (by kernel_rfl) 18 #[.int .u64 x] (by kernel_rfl) (rbytes_R x HX.out _) ?_ ?_
  · rintro v wc2 ⟨rg2, rc2, rfl, ra2, rb2⟩
    refine wpAny_ready (rs := [1, 4]) (by kernel_rfl) (by simp) ?_
    refine rd_run 1 29 (.string (strOfNums (be x.toNat))) rfl rfl (by kernel_rfl) (rd_conv rfl (by kernel_rfl) (conv_any (Ag.i (Ag.at (HAG.out.drew) rb2)))) ?_ ?_
    ·
     refine wpAny_ready (rs := [4]) (by kernel_rfl) (by simp) ?_
     refine rd_run 4 32 (.string (strOfNums (be x.toNat))) rfl rfl (by kernel_rfl) (rd_conv rfl (by kernel_rfl) (conv_any (Ag.i (ra2)))) ?_ ?_
     ·
      refine rd_take 5 33 (.bool true) rfl rfl (by kernel_rfl) (by kernel_rfl) (by kernel_rfl) (fun _ _ _ h => h) (by kernel_rfl) (fun w => rd_eqs (s1 := (strOfNums (be x.toNat))) (s2 := (strOfNums (be x.toNat))) rfl (by kernel_rfl) (by kernel_rfl) (by simp)) ?_
      refine rd_take 6 34 (.bool true) rfl rfl (by kernel_rfl) (by kernel_rfl) (by kernel_rfl) (fun _ _ _ h => h) (by kernel_rfl) (fun w => by kernel_rfl) ?_
      refine rd_take 7 35 (.slice a1 n c1) rfl rfl (by kernel_rfl) (by kernel_rfl) (by kernel_rfl) (fun _ _ _ h => h) (by kernel_rfl) (fun w => by kernel_rfl) ?_
      refine rd_take 9 37 (.slice a n c) rfl rfl (by kernel_rfl) (by kernel_rfl) (by kernel_rfl) (fun _ _ _ h => h) (by kernel_rfl) (fun w => by kernel_rfl) ?_
      refine wpAny_ready (rs := [8, 10]) (by kernel_rfl) (by simp) ?_
      refine rd_run 8 36 (.string (strOfNums b)) rfl rfl (by kernel_rfl) (rd_conv rfl (by kernel_rfl) (conv_any (Ag.i (Ag.at (HGV.out.drew) rb2)))) ?_ ?_
      ·
       refine wpAny_ready (rs := [10]) (by kernel_rfl) (by simp) ?_
       refine rd_run 10 38 (.string (strOfNums b)) rfl rfl (by kernel_rfl) (rd_conv rfl (by kernel_rfl) (conv_any (Ag.i (Ag.at (HAR.out.drew) rb2)))) ?_ ?_
       ·
        refine rd_take 11 39 (.bool true) rfl rfl (by kernel_rfl) (by kernel_rfl) (by kernel_rfl) (fun _ _ _ h => h) (by kernel_rfl) (fun w => rd_eqs (s1 := (strOfNums b)) (s2 := (strOfNums b)) rfl (by kernel_rfl) (by kernel_rfl) (by simp)) ?_
        refine rd_take 12 40 (.bool true) rfl rfl (by kernel_rfl) (by kernel_rfl) (by kernel_rfl) (fun _ _ _ h => h) (by kernel_rfl) (fun w => by kernel_rfl) ?_
        refine rd_take 13 11 (.bool true) rfl rfl (by kernel_rfl) (by kernel_rfl) (by kernel_rfl) (fun _ _ _ h => h) (by kernel_rfl) (fun w => by kernel_rfl) ?_
        refine wpAny_done (by kernel_rfl) ?_ _
        exact cut_at (F := ⟨#[.int .u64 x, .slice a n c, undef, undef, .bool false, .slice a1 n c1, .int .u64 q, .bool r2, .int .u64 q, .bool r2, .slice (some ⟨g, 0, none⟩) k k, .bool true, undef, .slice (some ⟨w.heap.size, 0, none⟩) 0 0, .slice a n c, .slice a1 n c1, .tuple #[.int .u64 q, .bool r2], .slice a1 n c1, .tuple #[.int .u64 q, .bool r2], .int .u64 q, .bool r2, .tuple #[.int .u64 q, .bool r2], .slice a n c, .tuple #[.int .u64 q, .bool r2], .int .u64 q, .bool r2, .int .u64 x, .slice (some ⟨g, 0, none⟩) k k, .slice (some ⟨g, 0, none⟩) k k, .string (strOfNums (be x.toNat)), .int .u64 x, .slice rg2 (nb x.toNat) rc2, .string (strOfNums (be x.toNat)), .bool true, .bool true, .slice a1 n c1, .string (strOfNums b), .slice a n c, .string (strOfNums b), .bool true, .bool true, undef, undef, undef, undef, undef, undef, undef, undef, undef, undef, undef, undef, undef, undef, undef, undef, undef, undef, undef, undef, undef, undef, undef, undef, undef, undef, undef, undef, undef, undef, undef, undef], []⟩) (by kernel_rfl) (hrest _ _ _ _ _ _ _ _ _ _ _ _ _ (Below.row rb2 HR4.out) (below_go HBW.out.drew rb2))
       exact AllReady.nil
      refine rd_run 10 38 (.string (strOfNums b)) rfl rfl (by kernel_rfl) (rd_conv rfl (by kernel_rfl) (conv_any (Ag.i (Ag.at (HAR.out.drew) rb2)))) ?_ ?_
      ·
       refine wpAny_ready (rs := [8]) (by kernel_rfl) (by simp) ?_
       refine rd_run 8 36 (.string (strOfNums b)) rfl rfl (by kernel_rfl) (rd_conv rfl (by kernel_rfl) (conv_any (Ag.i (Ag.at (HGV.out.drew) rb2)))) ?_ ?_
       ·
        refine rd_take 11 39 (.bool true) rfl rfl (by kernel_rfl) (by kernel_rfl) (by kernel_rfl) (fun _ _ _ h => h) (by kernel_rfl) (fun w => rd_eqs (s1 := (strOfNums b)) (s2 := (strOfNums b)) rfl (by kernel_rfl) (by kernel_rfl) (by simp)) ?_
        refine rd_take 12 40 (.bool true) rfl rfl (by kernel_rfl) (by kernel_rfl) (by kernel_rfl) (fun _ _ _ h => h) (by kernel_rfl) (fun w => by kernel_rfl) ?_
        refine rd_take 13 11 (.bool true) rfl rfl (by kernel_rfl) (by kernel_rfl) (by kernel_rfl) (fun _ _ _ h => h) (by kernel_rfl) (fun w => by kernel_rfl) ?_
        refine wpAny_done (by kernel_rfl) ?_ _
        exact cut_at (F := ⟨#[.int .u64 x, .slice a n c, undef, undef, .bool false, .slice a1 n c1, .int .u64 q, .bool r2, .int .u64 q, .bool r2, .slice (some ⟨g, 0, none⟩) k k, .bool true, undef, .slice (some ⟨w.heap.size, 0, none⟩) 0 0, .slice a n c, .slice a1 n c1, .tuple #[.int .u64 q, .bool r2], .slice a1 n c1, .tuple #[.int .u64 q, .bool r2], .int .u64 q, .bool r2, .tuple #[.int .u64 q, .bool r2], .slice a n c, .tuple #[.int .u64 q, .bool r2], .int .u64 q, .bool r2, .int .u64 x, .slice (some ⟨g, 0, none⟩) k k, .slice (some ⟨g, 0, none⟩) k k, .string (strOfNums (be x.toNat)), .int .u64 x, .slice rg2 (nb x.toNat) rc2, .string (strOfNums (be x.toNat)), .bool true, .bool true, .slice a1 n c1, .string (strOfNums b), .slice a n c, .string (strOfNums b), .bool true, .bool true, undef, undef, undef, undef, undef, undef, undef, undef, undef, undef, undef, undef, undef, undef, undef, undef, undef, undef, undef, undef, undef, undef, undef, undef, undef, undef, undef, undef, undef, undef, undef, undef], []⟩) (by kernel_rfl) (hrest _ _ _ _ _ _ _ _ _ _ _ _ _ (Below.row rb2 HR4.out) (below_go HBW.out.drew rb2))
       exact AllReady.nil
      exact AllReady.nil
     exact AllReady.nil
    refine rd_run 4 32 (.string (strOfNums (be x.toNat))) rfl rfl (by kernel_rfl) (rd_conv rfl (by kernel_rfl) (conv_any (Ag.i (ra2)))) ?_ ?_
    ·
     refine wpAny_ready (rs := [1]) (by kernel_rfl) (by simp) ?_
     refine rd_run 1 29 (.string (strOfNums (be x.toNat))) rfl rfl (by kernel_rfl) (rd_conv rfl (by kernel_rfl) (conv_any (Ag.i (Ag.at (HAG.out.drew) rb2)))) ?_ ?_
     ·
      refine rd_take 5 33 (.bool true) rfl rfl (by kernel_rfl) (by kernel_rfl) (by kernel_rfl) (fun _ _ _ h => h) (by kernel_rfl) (fun w => rd_eqs (s1 := (strOfNums (be x.toNat))) (s2 := (strOfNums (be x.toNat))) rfl (by kernel_rfl) (by kernel_rfl) (by simp)) ?_
      refine rd_take 6 34 (.bool true) rfl rfl (by kernel_rfl) (by kernel_rfl) (by kernel_rfl) (fun _ _ _ h => h) (by kernel_rfl) (fun w => by kernel_rfl) ?_
      refine rd_take 7 35 (.slice a1 n c1) rfl rfl (by kernel_rfl) (by kernel_rfl) (by kernel_rfl) (fun _ _ _ h => h) (by kernel_rfl) (fun w => by kernel_rfl) ?_
      refine rd_take 9 37 (.slice a n c) rfl rfl (by kernel_rfl) (by kernel_rfl) (by kernel_rfl) (fun _ _ _ h => h) (by kernel_rfl) (fun w => by kernel_rfl) ?_
      refine wpAny_ready (rs := [8, 10]) (by kernel_rfl) (by simp) ?_
      refine rd_run 8 36 (.string (strOfNums b)) rfl rfl (by kernel_rfl) (rd_conv rfl (by kernel_rfl) (conv_any (Ag.i (Ag.at (HGV.out.drew) rb2)))) ?_ ?_
      ·
       refine wpAny_ready (rs := [10]) (by kernel_rfl) (by simp) ?_
       refine rd_run 10 38 (.string (strOfNums b)) rfl rfl (by kernel_rfl) (rd_conv rfl (by kernel_rfl) (conv_any (Ag.i (Ag.at (HAR.out.drew) rb2)))) ?_ ?_
       ·
        refine rd_take 11 39 (.bool true) rfl rfl (by kernel_rfl) (by kernel_rfl) (by kernel_rfl) (fun _ _ _ h => h) (by kernel_rfl) (fun w => rd_eqs (s1 := (strOfNums b)) (s2 := (strOfNums b)) rfl (by kernel_rfl) (by kernel_rfl) (by simp)) ?_
        refine rd_take 12 40 (.bool true) rfl rfl (by kernel_rfl) (by kernel_rfl) (by kernel_rfl) (fun _ _ _ h => h) (by kernel_rfl) (fun w => by kernel_rfl) ?_
        refine rd_take 13 11 (.bool true) rfl rfl (by kernel_rfl) (by kernel_rfl) (by kernel_rfl) (fun _ _ _ h => h) (by kernel_rfl) (fun w => by kernel_rfl) ?_
        refine wpAny_done (by kernel_rfl) ?_ _
        exact cut_at (F := ⟨#[.int .u64 x, .slice a n c, undef, undef, .bool false, .slice a1 n c1, .int .u64 q, .bool r2, .int .u64 q, .bool r2, .slice (some ⟨g, 0, none⟩) k k, .bool true, undef, .slice (some ⟨w.heap.size, 0, none⟩) 0 0, .slice a n c, .slice a1 n c1, .tuple #[.int .u64 q, .bool r2], .slice a1 n c1, .tuple #[.int .u64 q, .bool r2], .int .u64 q, .bool r2, .tuple #[.int .u64 q, .bool r2], .slice a n c, .tuple #[.int .u64 q, .bool r2], .int .u64 q, .bool r2, .int .u64 x, .slice (some ⟨g, 0, none⟩) k k, .slice (some ⟨g, 0, none⟩) k k, .string (strOfNums (be x.toNat)), .int .u64 x, .slice rg2 (nb x.toNat) rc2, .string (strOfNums (be x.toNat)), .bool true, .bool true, .slice a1 n c1, .string (strOfNums b), .slice a n c, .string (strOfNums b), .bool true, .bool true, undef, undef, undef, undef, undef, undef, undef, undef, undef, undef, undef, undef, undef, undef, undef, undef, undef, undef, undef, undef, undef, undef, undef, undef, undef, undef, undef, undef, undef, undef, undef, undef], []⟩) (by kernel_rfl) (hrest _ _ _ _ _ _ _ _ _ _ _ _ _ (Below.row rb2 HR4.out) (below_go HBW.out.drew rb2))
       exact AllReady.nil
      refine rd_run 10 38 (.string (strOfNums b)) rfl rfl (by kernel_rfl) (rd_conv rfl (by kernel_rfl) (conv_any (Ag.i (Ag.at (HAR.out.drew) rb2)))) ?_ ?_
      ·
       refine wpAny_ready (rs := [8]) (by kernel_rfl) (by simp) ?_
       refine rd_run 8 36 (.string (strOfNums b)) rfl rfl (by kernel_rfl) (rd_conv rfl (by kernel_rfl) (conv_any (Ag.i (Ag.at (HGV.out.drew) rb2)))) ?_ ?_
       ·
        refine rd_take 11 39 (.bool true) rfl rfl (by kernel_rfl) (by kernel_rfl) (by kernel_rfl) (fun _ _ _ h => h) (by kernel_rfl) (fun w => rd_eqs (s1 := (strOfNums b)) (s2 := (strOfNums b)) rfl (by kernel_rfl) (by kernel_rfl) (by simp)) ?_
        refine rd_take 12 40 (.bool true) rfl rfl (by kernel_rfl) (by kernel_rfl) (by kernel_rfl) (fun _ _ _ h => h) (by kernel_rfl) (fun w => by kernel_rfl) ?_
        refine rd_take 13 11 (.bool true) rfl rfl (by kernel_rfl) (by kernel_rfl) (by kernel_rfl) (fun _ _ _ h => h) (by kernel_rfl) (fun w => by kernel_rfl) ?_
        refine wpAny_done (by kernel_rfl) ?_ _
        exact cut_at (F := ⟨#[.int .u64 x, .slice a n c, undef, undef, .bool false, .slice a1 n c1, .int .u64 q, .bool r2, .int .u64 q, .bool r2, .slice (some ⟨g, 0, none⟩) k k, .bool true, undef, .slice (some ⟨w.heap.size, 0, none⟩) 0 0, .slice a n c, .slice a1 n c1, .tuple #[.int .u64 q, .bool r2], .slice a1 n c1, .tuple #[.int .u64 q, .bool r2], .int .u64 q, .bool r2, .tuple #[.int .u64 q, .bool r2], .slice a n c, .tuple #[.int .u64 q, .bool r2], .int .u64 q, .bool r2, .int .u64 x, .slice (some ⟨g, 0, none⟩) k k, .slice (some ⟨g, 0, none⟩) k k, .string (strOfNums (be x.toNat)), .int .u64 x, .slice rg2 (nb x.toNat) rc2, .string (strOfNums (be x.toNat)), .bool true, .bool true, .slice a1 n c1, .string (strOfNums b), .slice a n c, .string (strOfNums b), .bool true, .bool true, undef, undef, undef, undef, undef, undef, undef, undef, undef, undef, undef, undef, undef, undef, undef, undef, undef, undef, undef, undef, undef, undef, undef, undef, undef, undef, undef, undef, undef, undef, undef, undef], []⟩) (by kernel_rfl) (hrest _ _ _ _ _ _ _ _ _ _ _ _ _ (Below.row rb2 HR4.out) (below_go HBW.out.drew rb2))
       exact AllReady.nil
      exact AllReady.nil
     exact AllReady.nil
    exact AllReady.nil
  exact AllReady.nil
end Go.Proofs.Yticbfhfmigdhiaa

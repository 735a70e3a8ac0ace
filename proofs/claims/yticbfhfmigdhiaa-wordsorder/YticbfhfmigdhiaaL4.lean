/- That WordsOrder answers true. -/
import Derived.Test.YticbfhfmigdhiaaY1
namespace Go.Proofs.Yticbfhfmigdhiaa
open Go.RowKit
set_option linter.unusedVariables false
set_option maxHeartbeats 8000000 in
theorem order_law (x y : Int) (hx : 0 ≤ x ∧ x < 18446744073709551616) (hy : 0 ≤ y ∧ y < 18446744073709551616) (w : World) :
    Calls Try.prog 8 #[.int .u64 x, .int .u64 y] w fun e w' => e = .returned (.bool true) ∧ Below w.heap.size w w' := by
  have HL : Hid (Op.bytesLess (strOfNums (bek 8 x.toNat)).toList (strOfNums (bek 8 y.toNat)).toList = decide (x < y)) := Hid.mk (by
    rw [less_bek 8 _ _ (show x.toNat < 18446744073709551616 by omega) (show y.toNat < 18446744073709551616 by omega), decide_eq_decide]
    omega)
  have hm : ¬ nb x.toNat ≤ nb y.toNat → x > y := fun h => by
    rcases Int.lt_or_le y x with h1 | h1
    · exact h1
    · exact absurd (nb_mono (show x.toNat ≤ y.toNat by omega)) h
  have HX := Hid.mk hx
  have HY := Hid.mk hy
  by_cases hA : nb x.toNat ≤ nb y.toNat
  · have HA : Hid (decide (((nb x.toNat : Nat) : Int) ≤ ((nb y.toNat : Nat) : Int)) = true) := Hid.mk (decide_eq_true (by omega))
    clear hx hy hm hA
    go_enter Try.func8, Try.ntmps8
    go_wp2_with fail
    rename_i hk
    refine wp_region_any (by kernel_rfl) ?_
    try (change wpAny _ _ _ _ _ _ _ (World.drew _))
    refine wpAny_ready (rs := [0]) (by kernel_rfl) (by simp) ?_
    refine rd_call 0 5 rfl rfl (by kernel_rfl) 19 #[] (by kernel_rfl) (alive_R _) ?_ ?_
    · rintro v wc1 ⟨rfl, b1⟩
      refine rd_take 1 6 (.bool true) rfl rfl (by kernel_rfl) (by kernel_rfl) (by kernel_rfl) (fun _ _ _ h => h) (by kernel_rfl) (fun w => by kernel_rfl) ?_
      refine rd_take 2 7 (.int .u64 x) rfl rfl (by kernel_rfl) (by kernel_rfl) (by kernel_rfl) (fun _ _ _ h => h) (by kernel_rfl) (fun w => by kernel_rfl) ?_
      refine rd_take 5 10 (.int .u64 y) rfl rfl (by kernel_rfl) (by kernel_rfl) (by kernel_rfl) (fun _ _ _ h => h) (by kernel_rfl) (fun w => by kernel_rfl) ?_
      refine rd_take 9 14 (.int .u64 x) rfl rfl (by kernel_rfl) (by kernel_rfl) (by kernel_rfl) (fun _ _ _ h => h) (by kernel_rfl) (fun w => by kernel_rfl) ?_
      refine rd_take 10 15 (.int .u64 y) rfl rfl (by kernel_rfl) (by kernel_rfl) (by kernel_rfl) (fun _ _ _ h => h) (by kernel_rfl) (fun w => by kernel_rfl) ?_
      refine rd_take 11 16 (.bool (decide (x < y))) rfl rfl (by kernel_rfl) (by kernel_rfl) (by kernel_rfl) (fun _ _ _ h => h) (by kernel_rfl) (fun w => rd_lsu (p := x) (q := y) rfl (by kernel_rfl) (by kernel_rfl) (rfl)) ?_
      refine wpAny_ready (rs := [3]) (by kernel_rfl) (by simp) ?_
      refine rd_call 3 8 rfl rfl (by kernel_rfl) 22 #[.int .u64 x] (by kernel_rfl) (key_R x HX.out _) ?_ ?_
      · rintro v wc2 ⟨g2, rfl, a2, b2⟩
        refine wpAny_ready (rs := [4, 6]) (by kernel_rfl) (by simp) ?_
        refine rd_run 4 9 (.string (strOfNums (bek 8 x.toNat))) rfl rfl (by kernel_rfl) (rd_conv rfl (by kernel_rfl) (conv_any (Ag.i (a2)))) ?_ ?_
        ·
         refine wpAny_ready (rs := [6]) (by kernel_rfl) (by simp) ?_
         refine rd_call 6 11 rfl rfl (by kernel_rfl) 22 #[.int .u64 y] (by kernel_rfl) (key_R y HY.out _) ?_ ?_
         · rintro v wc3 ⟨g3, rfl, a3, b3⟩
           refine wpAny_ready (rs := [7]) (by kernel_rfl) (by simp) ?_
           refine rd_run 7 12 (.string (strOfNums (bek 8 y.toNat))) rfl rfl (by kernel_rfl) (rd_conv rfl (by kernel_rfl) (conv_any (Ag.i (a3)))) ?_ ?_
           ·
            refine rd_take 8 13 (.bool (decide (x < y))) rfl rfl (by kernel_rfl) (by kernel_rfl) (by kernel_rfl) (fun _ _ _ h => h) (by kernel_rfl) (fun w => rd_lss (s1 := (strOfNums (bek 8 x.toNat))) (s2 := (strOfNums (bek 8 y.toNat))) rfl (by kernel_rfl) (by kernel_rfl) (HL.out)) ?_
            refine rd_take 12 17 (.bool true) rfl rfl (by kernel_rfl) (by kernel_rfl) (by kernel_rfl) (fun _ _ _ h => h) (by kernel_rfl) (fun w => rd_eqb (p := (decide (x < y))) (q := (decide (x < y))) rfl (by kernel_rfl) (by kernel_rfl) (by simp)) ?_
            refine rd_take 13 18 (.bool true) rfl rfl (by kernel_rfl) (by kernel_rfl) (by kernel_rfl) (fun _ _ _ h => h) (by kernel_rfl) (fun w => by kernel_rfl) ?_
            refine rd_take 14 19 (.bool true) rfl rfl (by kernel_rfl) (by kernel_rfl) (by kernel_rfl) (fun _ _ _ h => h) (by kernel_rfl) (fun w => by kernel_rfl) ?_
            refine rd_take 15 20 (.int .u64 x) rfl rfl (by kernel_rfl) (by kernel_rfl) (by kernel_rfl) (fun _ _ _ h => h) (by kernel_rfl) (fun w => by kernel_rfl) ?_
            refine rd_take 18 23 (.int .u64 y) rfl rfl (by kernel_rfl) (by kernel_rfl) (by kernel_rfl) (fun _ _ _ h => h) (by kernel_rfl) (fun w => by kernel_rfl) ?_
            refine wpAny_ready (rs := [16]) (by kernel_rfl) (by simp) ?_
            refine rd_call 16 21 rfl rfl (by kernel_rfl) 17 #[.int .u64 x] (by kernel_rfl) (bytes_R x HX.out _) ?_ ?_
            · rintro v wc4 ⟨g4, rfl, a4, b4⟩
              refine rd_take 17 22 (.int .i64 ((nb x.toNat : Nat) : Int)) rfl rfl (by kernel_rfl) (by kernel_rfl) (by kernel_rfl) (fun _ _ _ h => h) (by kernel_rfl) (fun w => by kernel_rfl) ?_
              refine wpAny_ready (rs := [19]) (by kernel_rfl) (by simp) ?_
              refine rd_call 19 24 rfl rfl (by kernel_rfl) 17 #[.int .u64 y] (by kernel_rfl) (bytes_R y HY.out _) ?_ ?_
              · rintro v wc5 ⟨g5, rfl, a5, b5⟩
                refine rd_take 20 25 (.int .i64 ((nb y.toNat : Nat) : Int)) rfl rfl (by kernel_rfl) (by kernel_rfl) (by kernel_rfl) (fun _ _ _ h => h) (by kernel_rfl) (fun w => by kernel_rfl) ?_
                refine rd_take 21 26 (.bool true) rfl rfl (by kernel_rfl) (by kernel_rfl) (by kernel_rfl) (fun _ _ _ h => h) (by kernel_rfl) (fun w => rd_lei (p := ((nb x.toNat : Nat) : Int)) (q := ((nb y.toNat : Nat) : Int)) rfl (by kernel_rfl) (by kernel_rfl) (HA.out)) ?_
                refine rd_take 22 27 (.bool true) rfl rfl (by kernel_rfl) (by kernel_rfl) (by kernel_rfl) (fun _ _ _ h => h) (by kernel_rfl) (fun w => by kernel_rfl) ?_
                refine rd_skip 23 28 rfl rfl (by kernel_rfl) (by kernel_rfl) (by kernel_rfl) (fun _ _ _ h => h) (by kernel_rfl) ?_
                refine rd_skip 24 29 rfl rfl (by kernel_rfl) (by kernel_rfl) (by kernel_rfl) (fun _ _ _ h => h) (by kernel_rfl) ?_
                refine rd_skip 25 30 rfl rfl (by kernel_rfl) (by kernel_rfl) (by kernel_rfl) (fun _ _ _ h => h) (by kernel_rfl) ?_
                refine rd_take 26 31 (.bool true) rfl rfl (by kernel_rfl) (by kernel_rfl) (by kernel_rfl) (fun _ _ _ h => h) (by kernel_rfl) (fun w => by kernel_rfl) ?_
                refine rd_take 27 32 (.bool true) rfl rfl (by kernel_rfl) (by kernel_rfl) (by kernel_rfl) (fun _ _ _ h => h) (by kernel_rfl) (fun w => by kernel_rfl) ?_
                refine rd_take 28 4 (.bool true) rfl rfl (by kernel_rfl) (by kernel_rfl) (by kernel_rfl) (fun _ _ _ h => h) (by kernel_rfl) (fun w => by kernel_rfl) ?_
                refine wpAny_done (by kernel_rfl) ?_ _
                exact hk _ _ (end_ret 4 rfl (by kernel_rfl) (by kernel_rfl) (below_go (below_go (below_go (below_go (below_go (Below.refl w.heap.size w).drew b1) b2) b3) b4) b5))
              exact AllReady.nil
            exact AllReady.nil
           exact AllReady.nil
         exact AllReady.nil
        refine rd_call 6 11 rfl rfl (by kernel_rfl) 22 #[.int .u64 y] (by kernel_rfl) (key_R y HY.out _) ?_ ?_
        · rintro v wc6 ⟨g6, rfl, a6, b6⟩
          refine wpAny_ready (rs := [4, 7]) (by kernel_rfl) (by simp) ?_
          refine rd_run 4 9 (.string (strOfNums (bek 8 x.toNat))) rfl rfl (by kernel_rfl) (rd_conv rfl (by kernel_rfl) (conv_any (Ag.i (Ag.at (a2) b6)))) ?_ ?_
          ·
           refine wpAny_ready (rs := [7]) (by kernel_rfl) (by simp) ?_
           refine rd_run 7 12 (.string (strOfNums (bek 8 y.toNat))) rfl rfl (by kernel_rfl) (rd_conv rfl (by kernel_rfl) (conv_any (Ag.i (a6)))) ?_ ?_
           ·
            refine rd_take 8 13 (.bool (decide (x < y))) rfl rfl (by kernel_rfl) (by kernel_rfl) (by kernel_rfl) (fun _ _ _ h => h) (by kernel_rfl) (fun w => rd_lss (s1 := (strOfNums (bek 8 x.toNat))) (s2 := (strOfNums (bek 8 y.toNat))) rfl (by kernel_rfl) (by kernel_rfl) (HL.out)) ?_
            refine rd_take 12 17 (.bool true) rfl rfl (by kernel_rfl) (by kernel_rfl) (by kernel_rfl) (fun _ _ _ h => h) (by kernel_rfl) (fun w => rd_eqb (p := (decide (x < y))) (q := (decide (x < y))) rfl (by kernel_rfl) (by kernel_rfl) (by simp)) ?_
            refine rd_take 13 18 (.bool true) rfl rfl (by kernel_rfl) (by kernel_rfl) (by kernel_rfl) (fun _ _ _ h => h) (by kernel_rfl) (fun w => by kernel_rfl) ?_
            refine rd_take 14 19 (.bool true) rfl rfl (by kernel_rfl) (by kernel_rfl) (by kernel_rfl) (fun _ _ _ h => h) (by kernel_rfl) (fun w => by kernel_rfl) ?_
            refine rd_take 15 20 (.int .u64 x) rfl rfl (by kernel_rfl) (by kernel_rfl) (by kernel_rfl) (fun _ _ _ h => h) (by kernel_rfl) (fun w => by kernel_rfl) ?_
            refine rd_take 18 23 (.int .u64 y) rfl rfl (by kernel_rfl) (by kernel_rfl) (by kernel_rfl) (fun _ _ _ h => h) (by kernel_rfl) (fun w => by kernel_rfl) ?_
            refine wpAny_ready (rs := [16]) (by kernel_rfl) (by simp) ?_
            refine rd_call 16 21 rfl rfl (by kernel_rfl) 17 #[.int .u64 x] (by kernel_rfl) (bytes_R x HX.out _) ?_ ?_
            · rintro v wc7 ⟨g7, rfl, a7, b7⟩
              refine rd_take 17 22 (.int .i64 ((nb x.toNat : Nat) : Int)) rfl rfl (by kernel_rfl) (by kernel_rfl) (by kernel_rfl) (fun _ _ _ h => h) (by kernel_rfl) (fun w => by kernel_rfl) ?_
              refine wpAny_ready (rs := [19]) (by kernel_rfl) (by simp) ?_
              refine rd_call 19 24 rfl rfl (by kernel_rfl) 17 #[.int .u64 y] (by kernel_rfl) (bytes_R y HY.out _) ?_ ?_
              · rintro v wc8 ⟨g8, rfl, a8, b8⟩
                refine rd_take 20 25 (.int .i64 ((nb y.toNat : Nat) : Int)) rfl rfl (by kernel_rfl) (by kernel_rfl) (by kernel_rfl) (fun _ _ _ h => h) (by kernel_rfl) (fun w => by kernel_rfl) ?_
                refine rd_take 21 26 (.bool true) rfl rfl (by kernel_rfl) (by kernel_rfl) (by kernel_rfl) (fun _ _ _ h => h) (by kernel_rfl) (fun w => rd_lei (p := ((nb x.toNat : Nat) : Int)) (q := ((nb y.toNat : Nat) : Int)) rfl (by kernel_rfl) (by kernel_rfl) (HA.out)) ?_
                refine rd_take 22 27 (.bool true) rfl rfl (by kernel_rfl) (by kernel_rfl) (by kernel_rfl) (fun _ _ _ h => h) (by kernel_rfl) (fun w => by kernel_rfl) ?_
                refine rd_skip 23 28 rfl rfl (by kernel_rfl) (by kernel_rfl) (by kernel_rfl) (fun _ _ _ h => h) (by kernel_rfl) ?_
                refine rd_skip 24 29 rfl rfl (by kernel_rfl) (by kernel_rfl) (by kernel_rfl) (fun _ _ _ h => h) (by kernel_rfl) ?_
                refine rd_skip 25 30 rfl rfl (by kernel_rfl) (by kernel_rfl) (by kernel_rfl) (fun _ _ _ h => h) (by kernel_rfl) ?_
                refine rd_take 26 31 (.bool true) rfl rfl (by kernel_rfl) (by kernel_rfl) (by kernel_rfl) (fun _ _ _ h => h) (by kernel_rfl) (fun w => by kernel_rfl) ?_
                refine rd_take 27 32 (.bool true) rfl rfl (by kernel_rfl) (by kernel_rfl) (by kernel_rfl) (fun _ _ _ h => h) (by kernel_rfl) (fun w => by kernel_rfl) ?_
                refine rd_take 28 4 (.bool true) rfl rfl (by kernel_rfl) (by kernel_rfl) (by kernel_rfl) (fun _ _ _ h => h) (by kernel_rfl) (fun w => by kernel_rfl) ?_
                refine wpAny_done (by kernel_rfl) ?_ _
                exact hk _ _ (end_ret 4 rfl (by kernel_rfl) (by kernel_rfl) (below_go (below_go (below_go (below_go (below_go (Below.refl w.heap.size w).drew b1) b2) b6) b7) b8))
              exact AllReady.nil
            exact AllReady.nil
           exact AllReady.nil
          refine rd_run 7 12 (.string (strOfNums (bek 8 y.toNat))) rfl rfl (by kernel_rfl) (rd_conv rfl (by kernel_rfl) (conv_any (Ag.i (a6)))) ?_ ?_
          ·
           refine wpAny_ready (rs := [4]) (by kernel_rfl) (by simp) ?_
           refine rd_run 4 9 (.string (strOfNums (bek 8 x.toNat))) rfl rfl (by kernel_rfl) (rd_conv rfl (by kernel_rfl) (conv_any (Ag.i (Ag.at (a2) b6)))) ?_ ?_
           ·
            refine rd_take 8 13 (.bool (decide (x < y))) rfl rfl (by kernel_rfl) (by kernel_rfl) (by kernel_rfl) (fun _ _ _ h => h) (by kernel_rfl) (fun w => rd_lss (s1 := (strOfNums (bek 8 x.toNat))) (s2 := (strOfNums (bek 8 y.toNat))) rfl (by kernel_rfl) (by kernel_rfl) (HL.out)) ?_
            refine rd_take 12 17 (.bool true) rfl rfl (by kernel_rfl) (by kernel_rfl) (by kernel_rfl) (fun _ _ _ h => h) (by kernel_rfl) (fun w => rd_eqb (p := (decide (x < y))) (q := (decide (x < y))) rfl (by kernel_rfl) (by kernel_rfl) (by simp)) ?_
            refine rd_take 13 18 (.bool true) rfl rfl (by kernel_rfl) (by kernel_rfl) (by kernel_rfl) (fun _ _ _ h => h) (by kernel_rfl) (fun w => by kernel_rfl) ?_
            refine rd_take 14 19 (.bool true) rfl rfl (by kernel_rfl) (by kernel_rfl) (by kernel_rfl) (fun _ _ _ h => h) (by kernel_rfl) (fun w => by kernel_rfl) ?_
            refine rd_take 15 20 (.int .u64 x) rfl rfl (by kernel_rfl) (by kernel_rfl) (by kernel_rfl) (fun _ _ _ h => h) (by kernel_rfl) (fun w => by kernel_rfl) ?_
            refine rd_take 18 23 (.int .u64 y) rfl rfl (by kernel_rfl) (by kernel_rfl) (by kernel_rfl) (fun _ _ _ h => h) (by kernel_rfl) (fun w => by kernel_rfl) ?_
            refine wpAny_ready (rs := [16]) (by kernel_rfl) (by simp) ?_
            refine rd_call 16 21 rfl rfl (by kernel_rfl) 17 #[.int .u64 x] (by kernel_rfl) (bytes_R x HX.out _) ?_ ?_
            · rintro v wc9 ⟨g9, rfl, a9, b9⟩
              refine rd_take 17 22 (.int .i64 ((nb x.toNat : Nat) : Int)) rfl rfl (by kernel_rfl) (by kernel_rfl) (by kernel_rfl) (fun _ _ _ h => h) (by kernel_rfl) (fun w => by kernel_rfl) ?_
              refine wpAny_ready (rs := [19]) (by kernel_rfl) (by simp) ?_
              refine rd_call 19 24 rfl rfl (by kernel_rfl) 17 #[.int .u64 y] (by kernel_rfl) (bytes_R y HY.out _) ?_ ?_
              · rintro v wc10 ⟨g10, rfl, a10, b10⟩
                refine rd_take 20 25 (.int .i64 ((nb y.toNat : Nat) : Int)) rfl rfl (by kernel_rfl) (by kernel_rfl) (by kernel_rfl) (fun _ _ _ h => h) (by kernel_rfl) (fun w => by kernel_rfl) ?_
                refine rd_take 21 26 (.bool true) rfl rfl (by kernel_rfl) (by kernel_rfl) (by kernel_rfl) (fun _ _ _ h => h) (by kernel_rfl) (fun w => rd_lei (p := ((nb x.toNat : Nat) : Int)) (q := ((nb y.toNat : Nat) : Int)) rfl (by kernel_rfl) (by kernel_rfl) (HA.out)) ?_
                refine rd_take 22 27 (.bool true) rfl rfl (by kernel_rfl) (by kernel_rfl) (by kernel_rfl) (fun _ _ _ h => h) (by kernel_rfl) (fun w => by kernel_rfl) ?_
                refine rd_skip 23 28 rfl rfl (by kernel_rfl) (by kernel_rfl) (by kernel_rfl) (fun _ _ _ h => h) (by kernel_rfl) ?_
                refine rd_skip 24 29 rfl rfl (by kernel_rfl) (by kernel_rfl) (by kernel_rfl) (fun _ _ _ h => h) (by kernel_rfl) ?_
                refine rd_skip 25 30 rfl rfl (by kernel_rfl) (by kernel_rfl) (by kernel_rfl) (fun _ _ _ h => h) (by kernel_rfl) ?_
                refine rd_take 26 31 (.bool true) rfl rfl (by kernel_rfl) (by kernel_rfl) (by kernel_rfl) (fun _ _ _ h => h) (by kernel_rfl) (fun w => by kernel_rfl) ?_
                refine rd_take 27 32 (.bool true) rfl rfl (by kernel_rfl) (by kernel_rfl) (by kernel_rfl) (fun _ _ _ h => h) (by kernel_rfl) (fun w => by kernel_rfl) ?_
                refine rd_take 28 4 (.bool true) rfl rfl (by kernel_rfl) (by kernel_rfl) (by kernel_rfl) (fun _ _ _ h => h) (by kernel_rfl) (fun w => by kernel_rfl) ?_
                refine wpAny_done (by kernel_rfl) ?_ _
                exact hk _ _ (end_ret 4 rfl (by kernel_rfl) (by kernel_rfl) (below_go (below_go (below_go (below_go (below_go (Below.refl w.heap.size w).drew b1) b2) b6) b9) b10))
              exact AllReady.nil
            exact AllReady.nil
           exact AllReady.nil
          exact AllReady.nil
        exact AllReady.nil
      exact AllReady.nil
    exact AllReady.nil
  · have HA : Hid (decide (((nb x.toNat : Nat) : Int) ≤ ((nb y.toNat : Nat) : Int)) = false) := Hid.mk (decide_eq_false (by omega))
    have HG : Hid (decide (x > y) = true) := Hid.mk (decide_eq_true (hm hA))
    clear hx hy hm hA
    go_enter Try.func8, Try.ntmps8
    go_wp2_with fail
    rename_i hk
    refine wp_region_any (by kernel_rfl) ?_
    try (change wpAny _ _ _ _ _ _ _ (World.drew _))
    refine wpAny_ready (rs := [0]) (by kernel_rfl) (by simp) ?_
    refine rd_call 0 5 rfl rfl (by kernel_rfl) 19 #[] (by kernel_rfl) (alive_R _) ?_ ?_
    · rintro v wc1 ⟨rfl, b1⟩
      refine rd_take 1 6 (.bool true) rfl rfl (by kernel_rfl) (by kernel_rfl) (by kernel_rfl) (fun _ _ _ h => h) (by kernel_rfl) (fun w => by kernel_rfl) ?_
      refine rd_take 2 7 (.int .u64 x) rfl rfl (by kernel_rfl) (by kernel_rfl) (by kernel_rfl) (fun _ _ _ h => h) (by kernel_rfl) (fun w => by kernel_rfl) ?_
      refine rd_take 5 10 (.int .u64 y) rfl rfl (by kernel_rfl) (by kernel_rfl) (by kernel_rfl) (fun _ _ _ h => h) (by kernel_rfl) (fun w => by kernel_rfl) ?_
      refine rd_take 9 14 (.int .u64 x) rfl rfl (by kernel_rfl) (by kernel_rfl) (by kernel_rfl) (fun _ _ _ h => h) (by kernel_rfl) (fun w => by kernel_rfl) ?_
      refine rd_take 10 15 (.int .u64 y) rfl rfl (by kernel_rfl) (by kernel_rfl) (by kernel_rfl) (fun _ _ _ h => h) (by kernel_rfl) (fun w => by kernel_rfl) ?_
      refine rd_take 11 16 (.bool (decide (x < y))) rfl rfl (by kernel_rfl) (by kernel_rfl) (by kernel_rfl) (fun _ _ _ h => h) (by kernel_rfl) (fun w => rd_lsu (p := x) (q := y) rfl (by kernel_rfl) (by kernel_rfl) (rfl)) ?_
      refine wpAny_ready (rs := [3]) (by kernel_rfl) (by simp) ?_
      refine rd_call 3 8 rfl rfl (by kernel_rfl) 22 #[.int .u64 x] (by kernel_rfl) (key_R x HX.out _) ?_ ?_
      · rintro v wc2 ⟨g2, rfl, a2, b2⟩
        refine wpAny_ready (rs := [4, 6]) (by kernel_rfl) (by simp) ?_
        refine rd_run 4 9 (.string (strOfNums (bek 8 x.toNat))) rfl rfl (by kernel_rfl) (rd_conv rfl (by kernel_rfl) (conv_any (Ag.i (a2)))) ?_ ?_
        ·
         refine wpAny_ready (rs := [6]) (by kernel_rfl) (by simp) ?_
         refine rd_call 6 11 rfl rfl (by kernel_rfl) 22 #[.int .u64 y] (by kernel_rfl) (key_R y HY.out _) ?_ ?_
         · rintro v wc3 ⟨g3, rfl, a3, b3⟩
           refine wpAny_ready (rs := [7]) (by kernel_rfl) (by simp) ?_
           refine rd_run 7 12 (.string (strOfNums (bek 8 y.toNat))) rfl rfl (by kernel_rfl) (rd_conv rfl (by kernel_rfl) (conv_any (Ag.i (a3)))) ?_ ?_
           ·
            refine rd_take 8 13 (.bool (decide (x < y))) rfl rfl (by kernel_rfl) (by kernel_rfl) (by kernel_rfl) (fun _ _ _ h => h) (by kernel_rfl) (fun w => rd_lss (s1 := (strOfNums (bek 8 x.toNat))) (s2 := (strOfNums (bek 8 y.toNat))) rfl (by kernel_rfl) (by kernel_rfl) (HL.out)) ?_
            refine rd_take 12 17 (.bool true) rfl rfl (by kernel_rfl) (by kernel_rfl) (by kernel_rfl) (fun _ _ _ h => h) (by kernel_rfl) (fun w => rd_eqb (p := (decide (x < y))) (q := (decide (x < y))) rfl (by kernel_rfl) (by kernel_rfl) (by simp)) ?_
            refine rd_take 13 18 (.bool true) rfl rfl (by kernel_rfl) (by kernel_rfl) (by kernel_rfl) (fun _ _ _ h => h) (by kernel_rfl) (fun w => by kernel_rfl) ?_
            refine rd_take 14 19 (.bool true) rfl rfl (by kernel_rfl) (by kernel_rfl) (by kernel_rfl) (fun _ _ _ h => h) (by kernel_rfl) (fun w => by kernel_rfl) ?_
            refine rd_take 15 20 (.int .u64 x) rfl rfl (by kernel_rfl) (by kernel_rfl) (by kernel_rfl) (fun _ _ _ h => h) (by kernel_rfl) (fun w => by kernel_rfl) ?_
            refine rd_take 18 23 (.int .u64 y) rfl rfl (by kernel_rfl) (by kernel_rfl) (by kernel_rfl) (fun _ _ _ h => h) (by kernel_rfl) (fun w => by kernel_rfl) ?_
            refine wpAny_ready (rs := [16]) (by kernel_rfl) (by simp) ?_
            refine rd_call 16 21 rfl rfl (by kernel_rfl) 17 #[.int .u64 x] (by kernel_rfl) (bytes_R x HX.out _) ?_ ?_
            · rintro v wc4 ⟨g4, rfl, a4, b4⟩
              refine rd_take 17 22 (.int .i64 ((nb x.toNat : Nat) : Int)) rfl rfl (by kernel_rfl) (by kernel_rfl) (by kernel_rfl) (fun _ _ _ h => h) (by kernel_rfl) (fun w => by kernel_rfl) ?_
              refine wpAny_ready (rs := [19]) (by kernel_rfl) (by simp) ?_
              refine rd_call 19 24 rfl rfl (by kernel_rfl) 17 #[.int .u64 y] (by kernel_rfl) (bytes_R y HY.out _) ?_ ?_
              · rintro v wc5 ⟨g5, rfl, a5, b5⟩
                refine rd_take 20 25 (.int .i64 ((nb y.toNat : Nat) : Int)) rfl rfl (by kernel_rfl) (by kernel_rfl) (by kernel_rfl) (fun _ _ _ h => h) (by kernel_rfl) (fun w => by kernel_rfl) ?_
                refine rd_take 21 26 (.bool false) rfl rfl (by kernel_rfl) (by kernel_rfl) (by kernel_rfl) (fun _ _ _ h => h) (by kernel_rfl) (fun w => rd_lei (p := ((nb x.toNat : Nat) : Int)) (q := ((nb y.toNat : Nat) : Int)) rfl (by kernel_rfl) (by kernel_rfl) (HA.out)) ?_
                refine rd_take 22 27 (.bool false) rfl rfl (by kernel_rfl) (by kernel_rfl) (by kernel_rfl) (fun _ _ _ h => h) (by kernel_rfl) (fun w => by kernel_rfl) ?_
                refine rd_take 23 28 (.int .u64 x) rfl rfl (by kernel_rfl) (by kernel_rfl) (by kernel_rfl) (fun _ _ _ h => h) (by kernel_rfl) (fun w => by kernel_rfl) ?_
                refine rd_take 24 29 (.int .u64 y) rfl rfl (by kernel_rfl) (by kernel_rfl) (by kernel_rfl) (fun _ _ _ h => h) (by kernel_rfl) (fun w => by kernel_rfl) ?_
                refine rd_take 25 30 (.bool true) rfl rfl (by kernel_rfl) (by kernel_rfl) (by kernel_rfl) (fun _ _ _ h => h) (by kernel_rfl) (fun w => rd_gtu (p := x) (q := y) rfl (by kernel_rfl) (by kernel_rfl) (HG.out)) ?_
                refine rd_take 26 31 (.bool true) rfl rfl (by kernel_rfl) (by kernel_rfl) (by kernel_rfl) (fun _ _ _ h => h) (by kernel_rfl) (fun w => by kernel_rfl) ?_
                refine rd_take 27 32 (.bool true) rfl rfl (by kernel_rfl) (by kernel_rfl) (by kernel_rfl) (fun _ _ _ h => h) (by kernel_rfl) (fun w => by kernel_rfl) ?_
                refine rd_take 28 4 (.bool true) rfl rfl (by kernel_rfl) (by kernel_rfl) (by kernel_rfl) (fun _ _ _ h => h) (by kernel_rfl) (fun w => by kernel_rfl) ?_
                refine wpAny_done (by kernel_rfl) ?_ _
                exact hk _ _ (end_ret 4 rfl (by kernel_rfl) (by kernel_rfl) (below_go (below_go (below_go (below_go (below_go (Below.refl w.heap.size w).drew b1) b2) b3) b4) b5))
              exact AllReady.nil
            exact AllReady.nil
           exact AllReady.nil
         exact AllReady.nil
        refine rd_call 6 11 rfl rfl (by kernel_rfl) 22 #[.int .u64 y] (by kernel_rfl) (key_R y HY.out _) ?_ ?_
        · rintro v wc6 ⟨g6, rfl, a6, b6⟩
          refine wpAny_ready (rs := [4, 7]) (by kernel_rfl) (by simp) ?_
          refine rd_run 4 9 (.string (strOfNums (bek 8 x.toNat))) rfl rfl (by kernel_rfl) (rd_conv rfl (by kernel_rfl) (conv_any (Ag.i (Ag.at (a2) b6)))) ?_ ?_
          ·
           refine wpAny_ready (rs := [7]) (by kernel_rfl) (by simp) ?_
           refine rd_run 7 12 (.string (strOfNums (bek 8 y.toNat))) rfl rfl (by kernel_rfl) (rd_conv rfl (by kernel_rfl) (conv_any (Ag.i (a6)))) ?_ ?_
           ·
            refine rd_take 8 13 (.bool (decide (x < y))) rfl rfl (by kernel_rfl) (by kernel_rfl) (by kernel_rfl) (fun _ _ _ h => h) (by kernel_rfl) (fun w => rd_lss (s1 := (strOfNums (bek 8 x.toNat))) (s2 := (strOfNums (bek 8 y.toNat))) rfl (by kernel_rfl) (by kernel_rfl) (HL.out)) ?_
            refine rd_take 12 17 (.bool true) rfl rfl (by kernel_rfl) (by kernel_rfl) (by kernel_rfl) (fun _ _ _ h => h) (by kernel_rfl) (fun w => rd_eqb (p := (decide (x < y))) (q := (decide (x < y))) rfl (by kernel_rfl) (by kernel_rfl) (by simp)) ?_
            refine rd_take 13 18 (.bool true) rfl rfl (by kernel_rfl) (by kernel_rfl) (by kernel_rfl) (fun _ _ _ h => h) (by kernel_rfl) (fun w => by kernel_rfl) ?_
            refine rd_take 14 19 (.bool true) rfl rfl (by kernel_rfl) (by kernel_rfl) (by kernel_rfl) (fun _ _ _ h => h) (by kernel_rfl) (fun w => by kernel_rfl) ?_
            refine rd_take 15 20 (.int .u64 x) rfl rfl (by kernel_rfl) (by kernel_rfl) (by kernel_rfl) (fun _ _ _ h => h) (by kernel_rfl) (fun w => by kernel_rfl) ?_
            refine rd_take 18 23 (.int .u64 y) rfl rfl (by kernel_rfl) (by kernel_rfl) (by kernel_rfl) (fun _ _ _ h => h) (by kernel_rfl) (fun w => by kernel_rfl) ?_
            refine wpAny_ready (rs := [16]) (by kernel_rfl) (by simp) ?_
            refine rd_call 16 21 rfl rfl (by kernel_rfl) 17 #[.int .u64 x] (by kernel_rfl) (bytes_R x HX.out _) ?_ ?_
            · rintro v wc7 ⟨g7, rfl, a7, b7⟩
              refine rd_take 17 22 (.int .i64 ((nb x.toNat : Nat) : Int)) rfl rfl (by kernel_rfl) (by kernel_rfl) (by kernel_rfl) (fun _ _ _ h => h) (by kernel_rfl) (fun w => by kernel_rfl) ?_
              refine wpAny_ready (rs := [19]) (by kernel_rfl) (by simp) ?_
              refine rd_call 19 24 rfl rfl (by kernel_rfl) 17 #[.int .u64 y] (by kernel_rfl) (bytes_R y HY.out _) ?_ ?_
              · rintro v wc8 ⟨g8, rfl, a8, b8⟩
                refine rd_take 20 25 (.int .i64 ((nb y.toNat : Nat) : Int)) rfl rfl (by kernel_rfl) (by kernel_rfl) (by kernel_rfl) (fun _ _ _ h => h) (by kernel_rfl) (fun w => by kernel_rfl) ?_
                refine rd_take 21 26 (.bool false) rfl rfl (by kernel_rfl) (by kernel_rfl) (by kernel_rfl) (fun _ _ _ h => h) (by kernel_rfl) (fun w => rd_lei (p := ((nb x.toNat : Nat) : Int)) (q := ((nb y.toNat : Nat) : Int)) rfl (by kernel_rfl) (by kernel_rfl) (HA.out)) ?_
                refine rd_take 22 27 (.bool false) rfl rfl (by kernel_rfl) (by kernel_rfl) (by kernel_rfl) (fun _ _ _ h => h) (by kernel_rfl) (fun w => by kernel_rfl) ?_
                refine rd_take 23 28 (.int .u64 x) rfl rfl (by kernel_rfl) (by kernel_rfl) (by kernel_rfl) (fun _ _ _ h => h) (by kernel_rfl) (fun w => by kernel_rfl) ?_
                refine rd_take 24 29 (.int .u64 y) rfl rfl (by kernel_rfl) (by kernel_rfl) (by kernel_rfl) (fun _ _ _ h => h) (by kernel_rfl) (fun w => by kernel_rfl) ?_
                refine rd_take 25 30 (.bool true) rfl rfl (by kernel_rfl) (by kernel_rfl) (by kernel_rfl) (fun _ _ _ h => h) (by kernel_rfl) (fun w => rd_gtu (p := x) (q := y) rfl (by kernel_rfl) (by kernel_rfl) (HG.out)) ?_
                refine rd_take 26 31 (.bool true) rfl rfl (by kernel_rfl) (by kernel_rfl) (by kernel_rfl) (fun _ _ _ h => h) (by kernel_rfl) (fun w => by kernel_rfl) ?_
                refine rd_take 27 32 (.bool true) rfl rfl (by kernel_rfl) (by kernel_rfl) (by kernel_rfl) (fun _ _ _ h => h) (by kernel_rfl) (fun w => by kernel_rfl) ?_
                refine rd_take 28 4 (.bool true) rfl rfl (by kernel_rfl) (by kernel_rfl) (by kernel_rfl) (fun _ _ _ h => h) (by kernel_rfl) (fun w => by kernel_rfl) ?_
                refine wpAny_done (by kernel_rfl) ?_ _
                exact hk _ _ (end_ret 4 rfl (by kernel_rfl) (by kernel_rfl) (below_go (below_go (below_go (below_go (below_go (Below.refl w.heap.size w).drew b1) b2) b6) b7) b8))
              exact AllReady.nil
            exact AllReady.nil
           exact AllReady.nil
          refine rd_run 7 12 (.string (strOfNums (bek 8 y.toNat))) rfl rfl (by kernel_rfl) (rd_conv rfl (by kernel_rfl) (conv_any (Ag.i (a6)))) ?_ ?_
          ·
           refine wpAny_ready (rs := [4]) (by kernel_rfl) (by simp) ?_
           refine rd_run 4 9 (.string (strOfNums (bek 8 x.toNat))) rfl rfl (by kernel_rfl) (rd_conv rfl (by kernel_rfl) (conv_any (Ag.i (Ag.at (a2) b6)))) ?_ ?_
           ·
            refine rd_take 8 13 (.bool (decide (x < y))) rfl rfl (by kernel_rfl) (by kernel_rfl) (by kernel_rfl) (fun _ _ _ h => h) (by kernel_rfl) (fun w => rd_lss (s1 := (strOfNums (bek 8 x.toNat))) (s2 := (strOfNums (bek 8 y.toNat))) rfl (by kernel_rfl) (by kernel_rfl) (HL.out)) ?_
            refine rd_take 12 17 (.bool true) rfl rfl (by kernel_rfl) (by kernel_rfl) (by kernel_rfl) (fun _ _ _ h => h) (by kernel_rfl) (fun w => rd_eqb (p := (decide (x < y))) (q := (decide (x < y))) rfl (by kernel_rfl) (by kernel_rfl) (by simp)) ?_
            refine rd_take 13 18 (.bool true) rfl rfl (by kernel_rfl) (by kernel_rfl) (by kernel_rfl) (fun _ _ _ h => h) (by kernel_rfl) (fun w => by kernel_rfl) ?_
            refine rd_take 14 19 (.bool true) rfl rfl (by kernel_rfl) (by kernel_rfl) (by kernel_rfl) (fun _ _ _ h => h) (by kernel_rfl) (fun w => by kernel_rfl) ?_
            refine rd_take 15 20 (.int .u64 x) rfl rfl (by kernel_rfl) (by kernel_rfl) (by kernel_rfl) (fun _ _ _ h => h) (by kernel_rfl) (fun w => by kernel_rfl) ?_
            refine rd_take 18 23 (.int .u64 y) rfl rfl (by kernel_rfl) (by kernel_rfl) (by kernel_rfl) (fun _ _ _ h => h) (by kernel_rfl) (fun w => by kernel_rfl) ?_
            refine wpAny_ready (rs := [16]) (by kernel_rfl) (by simp) ?_
            refine rd_call 16 21 rfl rfl (by kernel_rfl) 17 #[.int .u64 x] (by kernel_rfl) (bytes_R x HX.out _) ?_ ?_
            · rintro v wc9 ⟨g9, rfl, a9, b9⟩
              refine rd_take 17 22 (.int .i64 ((nb x.toNat : Nat) : Int)) rfl rfl (by kernel_rfl) (by kernel_rfl) (by kernel_rfl) (fun _ _ _ h => h) (by kernel_rfl) (fun w => by kernel_rfl) ?_
              refine wpAny_ready (rs := [19]) (by kernel_rfl) (by simp) ?_
              refine rd_call 19 24 rfl rfl (by kernel_rfl) 17 #[.int .u64 y] (by kernel_rfl) (bytes_R y HY.out _) ?_ ?_
              · rintro v wc10 ⟨g10, rfl, a10, b10⟩
                refine rd_take 20 25 (.int .i64 ((nb y.toNat : Nat) : Int)) rfl rfl (by kernel_rfl) (by kernel_rfl) (by kernel_rfl) (fun _ _ _ h => h) (by kernel_rfl) (fun w => by kernel_rfl) ?_
                refine rd_take 21 26 (.bool false) rfl rfl (by kernel_rfl) (by kernel_rfl) (by kernel_rfl) (fun _ _ _ h => h) (by kernel_rfl) (fun w => rd_lei (p := ((nb x.toNat : Nat) : Int)) (q := ((nb y.toNat : Nat) : Int)) rfl (by kernel_rfl) (by kernel_rfl) (HA.out)) ?_
                refine rd_take 22 27 (.bool false) rfl rfl (by kernel_rfl) (by kernel_rfl) (by kernel_rfl) (fun _ _ _ h => h) (by kernel_rfl) (fun w => by kernel_rfl) ?_
                refine rd_take 23 28 (.int .u64 x) rfl rfl (by kernel_rfl) (by kernel_rfl) (by kernel_rfl) (fun _ _ _ h => h) (by kernel_rfl) (fun w => by kernel_rfl) ?_
                refine rd_take 24 29 (.int .u64 y) rfl rfl (by kernel_rfl) (by kernel_rfl) (by kernel_rfl) (fun _ _ _ h => h) (by kernel_rfl) (fun w => by kernel_rfl) ?_
                refine rd_take 25 30 (.bool true) rfl rfl (by kernel_rfl) (by kernel_rfl) (by kernel_rfl) (fun _ _ _ h => h) (by kernel_rfl) (fun w => rd_gtu (p := x) (q := y) rfl (by kernel_rfl) (by kernel_rfl) (HG.out)) ?_
                refine rd_take 26 31 (.bool true) rfl rfl (by kernel_rfl) (by kernel_rfl) (by kernel_rfl) (fun _ _ _ h => h) (by kernel_rfl) (fun w => by kernel_rfl) ?_
                refine rd_take 27 32 (.bool true) rfl rfl (by kernel_rfl) (by kernel_rfl) (by kernel_rfl) (fun _ _ _ h => h) (by kernel_rfl) (fun w => by kernel_rfl) ?_
                refine rd_take 28 4 (.bool true) rfl rfl (by kernel_rfl) (by kernel_rfl) (by kernel_rfl) (fun _ _ _ h => h) (by kernel_rfl) (fun w => by kernel_rfl) ?_
                refine wpAny_done (by kernel_rfl) ?_ _
                exact hk _ _ (end_ret 4 rfl (by kernel_rfl) (by kernel_rfl) (below_go (below_go (below_go (below_go (below_go (Below.refl w.heap.size w).drew b1) b2) b6) b9) b10))
              exact AllReady.nil
            exact AllReady.nil
           exact AllReady.nil
          exact AllReady.nil
        exact AllReady.nil
      exact AllReady.nil
    exact AllReady.nil
end Go.Proofs.Yticbfhfmigdhiaa

/- That WordsKeys answers true. -/
import Derived.Test.YticbfhfmigdhiaaX0
namespace Go.Proofs.Yticbfhfmigdhiaa
open Go.RowKit
set_option linter.unusedVariables false

set_option maxHeartbeats 8000000 in
theorem keys_law (x : Int) (a : Option Addr) (n c : Nat) (b : List Int) (hx : 0 ≤ x ∧ x < 18446744073709551616) (hn : n ≤ 140737488351232) (w : World) (hag : Ag w a n c b) :
    Calls Try.prog 5 #[.int .u64 x, .slice a n c] w fun e w' => e = .returned (.bool true) ∧ Below w.heap.size w w' := by
  have H1 := Hid.mk (word_any a n c b w hag hn)
  have H2 := Hid.mk (rword_any a n c b w hag hn)
  generalize wdP b = r at *
  obtain ⟨r1, r2⟩ := r
  simp only at H1 H2
  generalize ((r1 : Nat) : Int) = q at *
  have HX := Hid.mk hx
  clear hag hn hx
  go_enter Try.func5, Try.ntmps5
  go_wp2_with fail
  refine H1.out.mono ?_
  rintro e w1 ⟨rfl, rfl⟩
  go_wp2_with fail
  refine H2.out.mono ?_
  rintro e w2 ⟨rfl, rfl⟩
  clear H1 H2
  go_wp2_with fail
  rename_i hk
  refine wp_region_any (by kernel_rfl) ?_
  try (change wpAny _ _ _ _ _ _ _ (World.drew _))
  refine wpAny_ready (rs := [0]) (by kernel_rfl) (by simp) ?_
  refine rd_call 0 19 rfl rfl (by kernel_rfl) 19 #[] (by kernel_rfl) (alive_R _) ?_ ?_
  · rintro v wc1 ⟨rfl, b1⟩
    refine rd_take 1 20 (.bool true) rfl rfl (by kernel_rfl) (by kernel_rfl) (by kernel_rfl) (fun _ _ _ h => h) (by kernel_rfl) (fun w => by kernel_rfl) ?_
    refine rd_take 2 21 (.int .u64 q) rfl rfl (by kernel_rfl) (by kernel_rfl) (by kernel_rfl) (fun _ _ _ h => h) (by kernel_rfl) (fun w => by kernel_rfl) ?_
    refine rd_take 3 22 (.int .u64 q) rfl rfl (by kernel_rfl) (by kernel_rfl) (by kernel_rfl) (fun _ _ _ h => h) (by kernel_rfl) (fun w => by kernel_rfl) ?_
    refine rd_take 4 23 (.bool true) rfl rfl (by kernel_rfl) (by kernel_rfl) (by kernel_rfl) (fun _ _ _ h => h) (by kernel_rfl) (fun w => rd_eqi (p := q) (q := q) rfl (by kernel_rfl) (by kernel_rfl) (by simp)) ?_
    refine rd_take 5 24 (.bool true) rfl rfl (by kernel_rfl) (by kernel_rfl) (by kernel_rfl) (fun _ _ _ h => h) (by kernel_rfl) (fun w => by kernel_rfl) ?_
    refine rd_take 6 25 (.bool true) rfl rfl (by kernel_rfl) (by kernel_rfl) (by kernel_rfl) (fun _ _ _ h => h) (by kernel_rfl) (fun w => by kernel_rfl) ?_
    refine rd_take 7 26 (.bool r2) rfl rfl (by kernel_rfl) (by kernel_rfl) (by kernel_rfl) (fun _ _ _ h => h) (by kernel_rfl) (fun w => by kernel_rfl) ?_
    refine rd_take 8 27 (.bool r2) rfl rfl (by kernel_rfl) (by kernel_rfl) (by kernel_rfl) (fun _ _ _ h => h) (by kernel_rfl) (fun w => by kernel_rfl) ?_
    refine rd_take 9 28 (.bool true) rfl rfl (by kernel_rfl) (by kernel_rfl) (by kernel_rfl) (fun _ _ _ h => h) (by kernel_rfl) (fun w => rd_eqb (p := r2) (q := r2) rfl (by kernel_rfl) (by kernel_rfl) (by simp)) ?_
    refine rd_take 10 29 (.bool true) rfl rfl (by kernel_rfl) (by kernel_rfl) (by kernel_rfl) (fun _ _ _ h => h) (by kernel_rfl) (fun w => by kernel_rfl) ?_
    refine rd_take 11 30 (.bool true) rfl rfl (by kernel_rfl) (by kernel_rfl) (by kernel_rfl) (fun _ _ _ h => h) (by kernel_rfl) (fun w => by kernel_rfl) ?_
    refine rd_take 12 31 (.int .u64 x) rfl rfl (by kernel_rfl) (by kernel_rfl) (by kernel_rfl) (fun _ _ _ h => h) (by kernel_rfl) (fun w => by kernel_rfl) ?_
    refine rd_take 15 34 (.int .u64 x) rfl rfl (by kernel_rfl) (by kernel_rfl) (by kernel_rfl) (fun _ _ _ h => h) (by kernel_rfl) (fun w => by kernel_rfl) ?_
    refine wpAny_ready (rs := [13]) (by kernel_rfl) (by simp) ?_
    refine rd_call 13 32 rfl rfl (by kernel_rfl) 22 #[.int .u64 x] (by kernel_rfl) (key_R x HX.out _) ?_ ?_
    · rintro v wc2 ⟨g2, rfl, a2, b2⟩
      refine wpAny_ready (rs := [14, 16]) (by kernel_rfl) (by simp) ?_
      refine rd_run 14 33 (.string (strOfNums (bek 8 x.toNat))) rfl rfl (by kernel_rfl) (rd_conv rfl (by kernel_rfl) (conv_any (Ag.i (a2)))) ?_ ?_
      ·
       refine wpAny_ready (rs := [16]) (by kernel_rfl) (by simp) ?_
       refine rd_call 16 35 rfl rfl (by kernel_rfl) 23 #[.int .u64 x] (by kernel_rfl) (rkey_R x HX.out _) ?_ ?_
       · rintro v wc3 ⟨g3, c3, rfl, a3, b3⟩
         refine wpAny_ready (rs := [17]) (by kernel_rfl) (by simp) ?_
         refine rd_run 17 36 (.string (strOfNums (bek 8 x.toNat))) rfl rfl (by kernel_rfl) (rd_conv rfl (by kernel_rfl) (conv_any (Ag.i (a3)))) ?_ ?_
         ·
          refine rd_take 18 37 (.bool true) rfl rfl (by kernel_rfl) (by kernel_rfl) (by kernel_rfl) (fun _ _ _ h => h) (by kernel_rfl) (fun w => rd_eqs (s1 := (strOfNums (bek 8 x.toNat))) (s2 := (strOfNums (bek 8 x.toNat))) rfl (by kernel_rfl) (by kernel_rfl) (by simp)) ?_
          refine rd_take 19 38 (.bool true) rfl rfl (by kernel_rfl) (by kernel_rfl) (by kernel_rfl) (fun _ _ _ h => h) (by kernel_rfl) (fun w => by kernel_rfl) ?_
          refine rd_take 20 4 (.bool true) rfl rfl (by kernel_rfl) (by kernel_rfl) (by kernel_rfl) (fun _ _ _ h => h) (by kernel_rfl) (fun w => by kernel_rfl) ?_
          refine wpAny_done (by kernel_rfl) ?_ _
          exact hk _ _ (end_ret 4 rfl (by kernel_rfl) (by kernel_rfl) (below_go (below_go (below_go (Below.refl w2.heap.size w2).drew b1) b2) b3))
         exact AllReady.nil
       exact AllReady.nil
      refine rd_call 16 35 rfl rfl (by kernel_rfl) 23 #[.int .u64 x] (by kernel_rfl) (rkey_R x HX.out _) ?_ ?_
      · rintro v wc4 ⟨g4, c4, rfl, a4, b4⟩
        refine wpAny_ready (rs := [14, 17]) (by kernel_rfl) (by simp) ?_
        refine rd_run 14 33 (.string (strOfNums (bek 8 x.toNat))) rfl rfl (by kernel_rfl) (rd_conv rfl (by kernel_rfl) (conv_any (Ag.i (Ag.at (a2) b4)))) ?_ ?_
        ·
         refine wpAny_ready (rs := [17]) (by kernel_rfl) (by simp) ?_
         refine rd_run 17 36 (.string (strOfNums (bek 8 x.toNat))) rfl rfl (by kernel_rfl) (rd_conv rfl (by kernel_rfl) (conv_any (Ag.i (a4)))) ?_ ?_
         ·
          refine rd_take 18 37 (.bool true) rfl rfl (by kernel_rfl) (by kernel_rfl) (by kernel_rfl) (fun _ _ _ h => h) (by kernel_rfl) (fun w => rd_eqs (s1 := (strOfNums (bek 8 x.toNat))) (s2 := (strOfNums (bek 8 x.toNat))) rfl (by kernel_rfl) (by kernel_rfl) (by simp)) ?_
          refine rd_take 19 38 (.bool true) rfl rfl (by kernel_rfl) (by kernel_rfl) (by kernel_rfl) (fun _ _ _ h => h) (by kernel_rfl) (fun w => by kernel_rfl) ?_
          refine rd_take 20 4 (.bool true) rfl rfl (by kernel_rfl) (by kernel_rfl) (by kernel_rfl) (fun _ _ _ h => h) (by kernel_rfl) (fun w => by kernel_rfl) ?_
          refine wpAny_done (by kernel_rfl) ?_ _
          exact hk _ _ (end_ret 4 rfl (by kernel_rfl) (by kernel_rfl) (below_go (below_go (below_go (Below.refl w2.heap.size w2).drew b1) b2) b4))
         exact AllReady.nil
        refine rd_run 17 36 (.string (strOfNums (bek 8 x.toNat))) rfl rfl (by kernel_rfl) (rd_conv rfl (by kernel_rfl) (conv_any (Ag.i (a4)))) ?_ ?_
        ·
         refine wpAny_ready (rs := [14]) (by kernel_rfl) (by simp) ?_
         refine rd_run 14 33 (.string (strOfNums (bek 8 x.toNat))) rfl rfl (by kernel_rfl) (rd_conv rfl (by kernel_rfl) (conv_any (Ag.i (Ag.at (a2) b4)))) ?_ ?_
         ·
          refine rd_take 18 37 (.bool true) rfl rfl (by kernel_rfl) (by kernel_rfl) (by kernel_rfl) (fun _ _ _ h => h) (by kernel_rfl) (fun w => rd_eqs (s1 := (strOfNums (bek 8 x.toNat))) (s2 := (strOfNums (bek 8 x.toNat))) rfl (by kernel_rfl) (by kernel_rfl) (by simp)) ?_
          refine rd_take 19 38 (.bool true) rfl rfl (by kernel_rfl) (by kernel_rfl) (by kernel_rfl) (fun _ _ _ h => h) (by kernel_rfl) (fun w => by kernel_rfl) ?_
          refine rd_take 20 4 (.bool true) rfl rfl (by kernel_rfl) (by kernel_rfl) (by kernel_rfl) (fun _ _ _ h => h) (by kernel_rfl) (fun w => by kernel_rfl) ?_
          refine wpAny_done (by kernel_rfl) ?_ _
          exact hk _ _ (end_ret 4 rfl (by kernel_rfl) (by kernel_rfl) (below_go (below_go (below_go (Below.refl w2.heap.size w2).drew b1) b2) b4))
         exact AllReady.nil
        exact AllReady.nil
      exact AllReady.nil
    exact AllReady.nil
  exact AllReady.nil
end Go.Proofs.Yticbfhfmigdhiaa

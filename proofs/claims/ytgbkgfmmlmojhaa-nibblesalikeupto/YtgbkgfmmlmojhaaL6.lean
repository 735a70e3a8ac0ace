/- That NibblesAlike answers true. -/
import Derived.Test.YtgbkgfmmlmojhaaX0
import Derived.Test.YtgbkgfmmlmojhaaC7
namespace Go.Proofs.Ytgbkgfmmlmojhaa
open Go.RowKit
set_option linter.unusedVariables false
set_option maxRecDepth 20000 in
set_option maxHeartbeats 4000000 in
theorem alike_law (a1 : Option Addr) (n1 c1 : Nat) (b1 : List Int) (a2 : Option Addr) (n2 c2 : Nat) (b2 : List Int) (hn1 : n1 ≤ 1048576) (hn2 : n2 ≤ 1048576) (w : World) (h1 : Ag w a1 n1 c1 b1) (h2 : Ag w a2 n2 c2 b2) :
    Calls Try.prog 8 #[.slice a1 n1 c1, .slice a2 n2 c2] w fun e w' => e = .returned (.bool true) ∧ Below w.heap.size w w' := by
  have hO1 := of_any a1 n1 c1 b1 w h1 (by omega)
  have hO2 := fun v (hb : Below w.heap.size w v) => of_any a2 n2 c2 b2 v (h2.at hb) (by omega)
  have hLA := fun v (hb : Below w.heap.size w v) => less_any a1 a2 n1 c1 n2 c2 b1 b2 v (h1.at hb) (h2.at hb) (by omega) (by omega)
  have hCA := fun v (hb : Below w.heap.size w v) => common_any a1 a2 n1 c1 n2 c2 b1 b2 v (h1.at hb) (h2.at hb) (by omega) (by omega)
  rw [← less_nib b1 b2] at hLA
  rw [← com_nib b1 b2] at hCA
  obtain ⟨m1, e1⟩ : ∃ m, 2 * n1 = m := ⟨_, rfl⟩
  obtain ⟨m2, e2⟩ : ∃ m, 2 * n2 = m := ⟨_, rfl⟩
  obtain ⟨q1, e3⟩ : ∃ q, nib b1 = q := ⟨_, rfl⟩
  obtain ⟨q2, e4⟩ : ∃ q, nib b2 = q := ⟨_, rfl⟩
  rw [e1, e3] at hO1
  rw [e2, e4] at hO2
  rw [e3, e4] at hLA hCA
  have hm1 : m1 ≤ 140737488355328 := by omega
  have hm2 : m2 ≤ 140737488355328 := by omega
  obtain ⟨k, ek⟩ : ∃ k, com q1 q2 = k := ⟨_, rfl⟩
  obtain ⟨ls, el⟩ : ∃ l, lessP q1 q2 = l := ⟨_, rfl⟩
  have hks := com_le q1 q2
  have hkt := com_take q1 q2
  have hkd := com_stop q1 q2
  rw [ek] at hCA hks hkt hkd
  rw [el] at hLA
  have HEK := Hid.mk ek
  have HEL := Hid.mk el
  have HKS := Hid.mk hks
  have HKT := Hid.mk hkt
  have HKD := Hid.mk hkd
  have HO1 := Hid.mk hO1
  have HO2 := Hid.mk hO2
  have HLA := Hid.mk hLA
  have HCA := Hid.mk hCA
  clear h1 h2 hO1 hO2 hLA hCA e1 e2 e3 e4 ek el hks hkt hkd
  go_enter Try.func8, Try.ntmps8
  go_wp2_with fail
  refine HO1.out.mono ?_
  rintro e w1 ⟨⟨p1, rfl, hcut⟩, hb⟩
  have HP1 := Hid.mk hcut.ag
  have HB1 := Hid.mk hb
  clear hcut hb
  go_wp2_with fail
  refine (HO2.out _ HB1.out).mono ?_
  rintro e w2 ⟨⟨p2, rfl, hcut⟩, hb⟩
  have HP1 := Hid.mk (HP1.out.at hb)
  have HP2 := Hid.mk hcut.ag
  have HB2 := Hid.mk (below_go HB1.out hb)
  clear hcut hb HB1
  have hc := common_any _ _ _ _ _ _ _ _ _ HP1.out HP2.out hm1 hm2
  rw [HEK.out] at hc
  have HCM := Hid.mk hc
  clear hc
  go_wp2_with fail
  refine HCM.out.mono ?_
  rintro e w3 ⟨rfl, hb⟩
  have HP1 := Hid.mk (HP1.out.at hb)
  have HP2 := Hid.mk (HP2.out.at hb)
  have HB3 := Hid.mk (below_go HB2.out hb)
  have hl1 := HP1.out.l
  have hl2 := HP2.out.l
  have hk1 : k ≤ m1 := by have := HKS.out; omega
  have hk2 : k ≤ m2 := by have := HKS.out; omega
  have hnil1 : p1 = none → m1 = 0 := fun h => (HP1.out.nil h).2
  have hnil2 : p2 = none → m2 = 0 := fun h => (HP2.out.nil h).2
  have HSM : Hid (∀ v, Below w3.heap.size w3 v → Calls Try.prog 12 #[.slice p1 k m1, .slice p2 k m2] v fun e w' => e = .returned (.bool true) ∧ w' = v) := Hid.mk fun v hv => by
    have h := same_any _ _ _ _ _ _ _ _ _ (ag_take (HP1.out.at hv) hk1) (ag_take (HP2.out.at hv) hk2)
    rw [decide_eq_true HKT.out] at h
    exact h
  have HLP : Hid (∀ v, Below w3.heap.size w3 v → Calls Try.prog 22 #[.slice p1 m1 m1, .slice p2 m2 m2] v fun e w' => e = .returned (.bool ls) ∧ Below v.heap.size v w') := Hid.mk fun v hv => by
    have h := less_any _ _ _ _ _ _ _ _ _ (HP1.out.at hv) (HP2.out.at hv) hm1 hm2
    rw [HEL.out] at h
    exact h
  have hz0 : decide ((k : Int) < 0) = false := by rw [decide_eq_false_iff_not]; omega
  have hz1 : decide ((k : Int) > m1) = false := by rw [decide_eq_false_iff_not]; omega
  have hz2 : decide ((k : Int) > m2) = false := by rw [decide_eq_false_iff_not]; omega
  clear hb HB2 HCM
  by_cases hlt1 : k < m1
  · have hq1 : decide ((k : Int) < m1) = true := by rw [decide_eq_true_iff]; omega
    by_cases hlt2 : k < m2
    · have hq2 : decide ((k : Int) < m2) = true := by rw [decide_eq_true_iff]; omega
      obtain ⟨g1, o1, rfl, _, _, hc1⟩ := ag_head HP1.out (by omega)
      obtain ⟨g2, o2, rfl, _, _, hc2⟩ := ag_head HP2.out (by omega)
      have hd := HKD.out (by omega) (by omega)
      have HC1 := Hid.mk (hc1 k hlt1)
      have HC2 := Hid.mk (hc2 k hlt2)
      generalize q1.getD k 0 = x at *
      generalize q2.getD k 0 = y at *
      have hxy : (x == y) = false := by rw [beq_eq_false_iff_ne]; exact hd
      clear hc1 hc2 hd hl1 hl2
      go_wp2_with fail
      rename_i KK hkk
      refine wp_region_held_drew (S := fun v => Below w3.heap.size w3 v) (by kernel_rfl) ((Below.refl _ _).drew) (fun hS => ?_)
      refine wpAnyH_ready (rs := [0]) (by kernel_rfl) (by simp) ?_
      refine rd_call 0 15 rfl rfl (by kernel_rfl) 11 #[] (by kernel_rfl) (R := fun v w' => v = .bool true ∧ Below w3.heap.size w3 w') ((alive_any _).mono fun e w' h => ⟨_, h.1, rfl, below_go hS h.2⟩) (fun v w' h => h.2) ?_ AllReadyH.nil
      rintro v w4 ⟨rfl, hS4⟩
      refine rd_take 1 16 (.bool false) rfl rfl (by kernel_rfl) (by kernel_rfl) (by kernel_rfl) (fun _ _ _ h => h) (by kernel_rfl) (fun v _ => by kernel_rfl) hS4 ?_
      refine rd_take 2 17 (.bool false) rfl rfl (by kernel_rfl) (by kernel_rfl) (by kernel_rfl) (fun _ _ _ h => h) (by kernel_rfl) (fun v _ => by kernel_rfl) hS4 ?_
      refine rd_take 3 18 (.int .i64 k) rfl rfl (by kernel_rfl) (by kernel_rfl) (by kernel_rfl) (fun _ _ _ h => h) (by kernel_rfl) (fun v _ => by kernel_rfl) hS4 ?_
      refine rd_take 4 19 (.bool false) rfl rfl (by kernel_rfl) (by kernel_rfl) (by kernel_rfl) (fun _ _ _ h => h) (by kernel_rfl) (fun v _ => rd_lss rfl (by kernel_rfl) (by kernel_rfl) hz0) hS4 ?_
      refine rd_take 5 20 (.bool false) rfl rfl (by kernel_rfl) (by kernel_rfl) (by kernel_rfl) (fun _ _ _ h => h) (by kernel_rfl) (fun v _ => by kernel_rfl) hS4 ?_
      refine rd_take 6 21 (.bool false) rfl rfl (by kernel_rfl) (by kernel_rfl) (by kernel_rfl) (fun _ _ _ h => h) (by kernel_rfl) (fun v _ => by kernel_rfl) hS4 ?_
      refine rd_take 7 22 (.int .i64 k) rfl rfl (by kernel_rfl) (by kernel_rfl) (by kernel_rfl) (fun _ _ _ h => h) (by kernel_rfl) (fun v _ => by kernel_rfl) hS4 ?_
      refine rd_take 8 23 (.slice (some ⟨g1, o1, none⟩) m1 m1) rfl rfl (by kernel_rfl) (by kernel_rfl) (by kernel_rfl) (fun _ _ _ h => h) (by kernel_rfl) (fun v _ => by kernel_rfl) hS4 ?_
      refine rd_take 9 24 (.int .i64 m1) rfl rfl (by kernel_rfl) (by kernel_rfl) (by kernel_rfl) (fun _ _ _ h => h) (by kernel_rfl) (fun v _ => by kernel_rfl) hS4 ?_
      refine rd_take 10 25 (.bool false) rfl rfl (by kernel_rfl) (by kernel_rfl) (by kernel_rfl) (fun _ _ _ h => h) (by kernel_rfl) (fun v _ => rd_gtr rfl (by kernel_rfl) (by kernel_rfl) hz1) hS4 ?_
      refine rd_take 11 26 (.bool false) rfl rfl (by kernel_rfl) (by kernel_rfl) (by kernel_rfl) (fun _ _ _ h => h) (by kernel_rfl) (fun v _ => by kernel_rfl) hS4 ?_
      refine rd_take 12 27 (.bool false) rfl rfl (by kernel_rfl) (by kernel_rfl) (by kernel_rfl) (fun _ _ _ h => h) (by kernel_rfl) (fun v _ => by kernel_rfl) hS4 ?_
      refine rd_take 13 28 (.int .i64 k) rfl rfl (by kernel_rfl) (by kernel_rfl) (by kernel_rfl) (fun _ _ _ h => h) (by kernel_rfl) (fun v _ => by kernel_rfl) hS4 ?_
      refine rd_take 14 29 (.slice (some ⟨g2, o2, none⟩) m2 m2) rfl rfl (by kernel_rfl) (by kernel_rfl) (by kernel_rfl) (fun _ _ _ h => h) (by kernel_rfl) (fun v _ => by kernel_rfl) hS4 ?_
      refine rd_take 15 30 (.int .i64 m2) rfl rfl (by kernel_rfl) (by kernel_rfl) (by kernel_rfl) (fun _ _ _ h => h) (by kernel_rfl) (fun v _ => by kernel_rfl) hS4 ?_
      refine rd_take 16 31 (.bool false) rfl rfl (by kernel_rfl) (by kernel_rfl) (by kernel_rfl) (fun _ _ _ h => h) (by kernel_rfl) (fun v _ => rd_gtr rfl (by kernel_rfl) (by kernel_rfl) hz2) hS4 ?_
      refine rd_take 17 32 (.bool false) rfl rfl (by kernel_rfl) (by kernel_rfl) (by kernel_rfl) (fun _ _ _ h => h) (by kernel_rfl) (fun v _ => by kernel_rfl) hS4 ?_
      refine rd_take 18 33 (.bool false) rfl rfl (by kernel_rfl) (by kernel_rfl) (by kernel_rfl) (fun _ _ _ h => h) (by kernel_rfl) (fun v _ => by kernel_rfl) hS4 ?_
      refine rd_take 19 34 (.slice (some ⟨g1, o1, none⟩) m1 m1) rfl rfl (by kernel_rfl) (by kernel_rfl) (by kernel_rfl) (fun _ _ _ h => h) (by kernel_rfl) (fun v _ => by kernel_rfl) hS4 ?_
      refine rd_take 20 35 (.int .i64 k) rfl rfl (by kernel_rfl) (by kernel_rfl) (by kernel_rfl) (fun _ _ _ h => h) (by kernel_rfl) (fun v _ => by kernel_rfl) hS4 ?_
      refine rd_take 21 36 (.slice (some ⟨g1, o1, none⟩) k m1) rfl rfl (by kernel_rfl) (by kernel_rfl) (by kernel_rfl) (fun _ _ _ h => h) (by kernel_rfl) (fun v _ => rd_front (m := m1) rfl (by kernel_rfl) (by kernel_rfl) hk1 hm1 hnil1) hS4 ?_
      refine rd_take 22 37 (.slice (some ⟨g2, o2, none⟩) m2 m2) rfl rfl (by kernel_rfl) (by kernel_rfl) (by kernel_rfl) (fun _ _ _ h => h) (by kernel_rfl) (fun v _ => by kernel_rfl) hS4 ?_
      refine rd_take 23 38 (.int .i64 k) rfl rfl (by kernel_rfl) (by kernel_rfl) (by kernel_rfl) (fun _ _ _ h => h) (by kernel_rfl) (fun v _ => by kernel_rfl) hS4 ?_
      refine rd_take 24 39 (.slice (some ⟨g2, o2, none⟩) k m2) rfl rfl (by kernel_rfl) (by kernel_rfl) (by kernel_rfl) (fun _ _ _ h => h) (by kernel_rfl) (fun v _ => rd_front (m := m2) rfl (by kernel_rfl) (by kernel_rfl) hk2 hm2 hnil2) hS4 ?_
      refine wpAnyH_ready (rs := [25]) (by kernel_rfl) (by simp) ?_
      refine rd_call 25 40 rfl rfl (by kernel_rfl) 12 #[.slice (some ⟨g1, o1, none⟩) k m1, .slice (some ⟨g2, o2, none⟩) k m2] (by kernel_rfl) (R := fun v w' => v = .bool true ∧ w' = w4) ((HSM.out _ hS4).mono fun e w' h => ⟨_, h.1, rfl, h.2⟩) (fun v w' h => by rw [h.2]; exact hS4) ?_ AllReadyH.nil
      rintro v w5 ⟨rfl, rfl⟩
      refine rd_take 26 41 (.bool false) rfl rfl (by kernel_rfl) (by kernel_rfl) (by kernel_rfl) (fun _ _ _ h => h) (by kernel_rfl) (fun v _ => by kernel_rfl) hS4 ?_
      refine rd_take 27 42 (.bool false) rfl rfl (by kernel_rfl) (by kernel_rfl) (by kernel_rfl) (fun _ _ _ h => h) (by kernel_rfl) (fun v _ => by kernel_rfl) hS4 ?_
      refine rd_take 28 43 (.bool false) rfl rfl (by kernel_rfl) (by kernel_rfl) (by kernel_rfl) (fun _ _ _ h => h) (by kernel_rfl) (fun v _ => by kernel_rfl) hS4 ?_
      refine rd_take 29 44 (.int .i64 k) rfl rfl (by kernel_rfl) (by kernel_rfl) (by kernel_rfl) (fun _ _ _ h => h) (by kernel_rfl) (fun v _ => by kernel_rfl) hS4 ?_
      refine rd_take 30 45 (.slice (some ⟨g1, o1, none⟩) m1 m1) rfl rfl (by kernel_rfl) (by kernel_rfl) (by kernel_rfl) (fun _ _ _ h => h) (by kernel_rfl) (fun v _ => by kernel_rfl) hS4 ?_
      refine rd_take 31 46 (.int .i64 m1) rfl rfl (by kernel_rfl) (by kernel_rfl) (by kernel_rfl) (fun _ _ _ h => h) (by kernel_rfl) (fun v _ => by kernel_rfl) hS4 ?_
      refine rd_take 32 47 (.bool true) rfl rfl (by kernel_rfl) (by kernel_rfl) (by kernel_rfl) (fun _ _ _ h => h) (by kernel_rfl) (fun v _ => rd_lss rfl (by kernel_rfl) (by kernel_rfl) hq1) hS4 ?_
      refine rd_take 33 48 (.bool true) rfl rfl (by kernel_rfl) (by kernel_rfl) (by kernel_rfl) (fun _ _ _ h => h) (by kernel_rfl) (fun v _ => by kernel_rfl) hS4 ?_
      refine rd_take 34 49 (.int .i64 k) rfl rfl (by kernel_rfl) (by kernel_rfl) (by kernel_rfl) (fun _ _ _ h => h) (by kernel_rfl) (fun v _ => by kernel_rfl) hS4 ?_
      refine rd_take 35 50 (.slice (some ⟨g2, o2, none⟩) m2 m2) rfl rfl (by kernel_rfl) (by kernel_rfl) (by kernel_rfl) (fun _ _ _ h => h) (by kernel_rfl) (fun v _ => by kernel_rfl) hS4 ?_
      refine rd_take 36 51 (.int .i64 m2) rfl rfl (by kernel_rfl) (by kernel_rfl) (by kernel_rfl) (fun _ _ _ h => h) (by kernel_rfl) (fun v _ => by kernel_rfl) hS4 ?_
      refine rd_take 37 52 (.bool true) rfl rfl (by kernel_rfl) (by kernel_rfl) (by kernel_rfl) (fun _ _ _ h => h) (by kernel_rfl) (fun v _ => rd_lss rfl (by kernel_rfl) (by kernel_rfl) hq2) hS4 ?_
      refine rd_take 38 53 (.bool true) rfl rfl (by kernel_rfl) (by kernel_rfl) (by kernel_rfl) (fun _ _ _ h => h) (by kernel_rfl) (fun v _ => by kernel_rfl) hS4 ?_
      refine rd_take 39 54 (.bool true) rfl rfl (by kernel_rfl) (by kernel_rfl) (by kernel_rfl) (fun _ _ _ h => h) (by kernel_rfl) (fun v _ => by kernel_rfl) hS4 ?_
      refine rd_take 40 55 (.slice (some ⟨g1, o1, none⟩) m1 m1) rfl rfl (by kernel_rfl) (by kernel_rfl) (by kernel_rfl) (fun _ _ _ h => h) (by kernel_rfl) (fun v _ => by kernel_rfl) hS4 ?_
      refine rd_take 41 56 (.int .i64 k) rfl rfl (by kernel_rfl) (by kernel_rfl) (by kernel_rfl) (fun _ _ _ h => h) (by kernel_rfl) (fun v _ => by kernel_rfl) hS4 ?_
      refine rd_take 42 57 (.pointer (some ⟨g1, o1 + k, none⟩)) rfl rfl (by kernel_rfl) (by kernel_rfl) (by kernel_rfl) (fun _ _ _ h => h) (by kernel_rfl) (fun v _ => rd_index8 (m := m1) (c := m1) rfl (by kernel_rfl) (by kernel_rfl) hlt1) hS4 ?_
      refine rd_take 43 58 (.int .u8 x) rfl rfl (by kernel_rfl) (by kernel_rfl) (by kernel_rfl) (fun _ _ _ h => h) (by kernel_rfl) (fun v hv => rd_load8 rfl (by kernel_rfl) (below_cell hv HC1.out)) hS4 ?_
      refine rd_take 44 59 (.slice (some ⟨g2, o2, none⟩) m2 m2) rfl rfl (by kernel_rfl) (by kernel_rfl) (by kernel_rfl) (fun _ _ _ h => h) (by kernel_rfl) (fun v _ => by kernel_rfl) hS4 ?_
      refine rd_take 45 60 (.int .i64 k) rfl rfl (by kernel_rfl) (by kernel_rfl) (by kernel_rfl) (fun _ _ _ h => h) (by kernel_rfl) (fun v _ => by kernel_rfl) hS4 ?_
      refine rd_take 46 61 (.pointer (some ⟨g2, o2 + k, none⟩)) rfl rfl (by kernel_rfl) (by kernel_rfl) (by kernel_rfl) (fun _ _ _ h => h) (by kernel_rfl) (fun v _ => rd_index8 (m := m2) (c := m2) rfl (by kernel_rfl) (by kernel_rfl) hlt2) hS4 ?_
      refine rd_take 47 62 (.int .u8 y) rfl rfl (by kernel_rfl) (by kernel_rfl) (by kernel_rfl) (fun _ _ _ h => h) (by kernel_rfl) (fun v hv => rd_load8 rfl (by kernel_rfl) (below_cell hv HC2.out)) hS4 ?_
      refine rd_take 48 63 (.bool false) rfl rfl (by kernel_rfl) (by kernel_rfl) (by kernel_rfl) (fun _ _ _ h => h) (by kernel_rfl) (fun v _ => rd_eq8 rfl (by kernel_rfl) (by kernel_rfl) hxy) hS4 ?_
      refine rd_take 49 64 (.bool false) rfl rfl (by kernel_rfl) (by kernel_rfl) (by kernel_rfl) (fun _ _ _ h => h) (by kernel_rfl) (fun v _ => by kernel_rfl) hS4 ?_
      refine rd_take 50 65 (.bool false) rfl rfl (by kernel_rfl) (by kernel_rfl) (by kernel_rfl) (fun _ _ _ h => h) (by kernel_rfl) (fun v _ => by kernel_rfl) hS4 ?_
      refine wpAnyH_done (by kernel_rfl) ?_ _
      have HS4 := Hid.mk hS4
      clear hS hS4
      refine cut_at (F := ⟨#[.slice a1 n1 c1, .slice a2 n2 c2, undef, undef, .bool false, .slice (some ⟨g1, o1, none⟩) m1 m1, .slice (some ⟨g2, o2, none⟩) m2 m2, .int .i64 k, .slice a1 n1 c1, .slice (some ⟨g1, o1, none⟩) m1 m1, .slice a2 n2 c2, .slice (some ⟨g2, o2, none⟩) m2 m2, .slice (some ⟨g1, o1, none⟩) m1 m1, .slice (some ⟨g2, o2, none⟩) m2 m2, .int .i64 k, .bool true, .bool false, .bool false, .int .i64 k, .bool false, .bool false, .bool false, .int .i64 k, .slice (some ⟨g1, o1, none⟩) m1 m1, .int .i64 m1, .bool false, .bool false, .bool false, .int .i64 k, .slice (some ⟨g2, o2, none⟩) m2 m2, .int .i64 m2, .bool false, .bool false, .bool false, .slice (some ⟨g1, o1, none⟩) m1 m1, .int .i64 k, .slice (some ⟨g1, o1, none⟩) k m1, .slice (some ⟨g2, o2, none⟩) m2 m2, .int .i64 k, .slice (some ⟨g2, o2, none⟩) k m2, .bool true, .bool false, .bool false, .bool false, .int .i64 k, .slice (some ⟨g1, o1, none⟩) m1 m1, .int .i64 m1, .bool true, .bool true, .int .i64 k, .slice (some ⟨g2, o2, none⟩) m2 m2, .int .i64 m2, .bool true, .bool true, .bool true, .slice (some ⟨g1, o1, none⟩) m1 m1, .int .i64 k, .pointer (some ⟨g1, o1 + k, none⟩), .int .u8 x, .slice (some ⟨g2, o2, none⟩) m2 m2, .int .i64 k, .pointer (some ⟨g2, o2 + k, none⟩), .int .u8 y, .bool false, .bool false, .bool false, undef, undef, undef, undef, undef, undef, undef, undef, undef, undef, undef, undef, undef, undef, undef], []⟩) (by kernel_rfl) ?_
      refine hkk _ _ ?_
      clear hkk
      clear hz0 hz1 hz2
      go_wp2_with fail
      refine (HLP.out _ HS4.out).mono ?_
      rintro e w6 ⟨rfl, hb6⟩
      have HB6 := Hid.mk (below_go HS4.out hb6)
      clear hb6
      go_wp2_with fail
      refine (HLA.out _ (below_go HB3.out HB6.out)).mono ?_
      rintro e w7 ⟨rfl, hb7⟩
      have HB7 := Hid.mk (below_go (below_go HB3.out HB6.out) hb7)
      clear hb7
      go_wp2_with fail
      refine (HCA.out _ HB7.out).mono ?_
      rintro e w8 ⟨rfl, hb8⟩
      have HB8 := Hid.mk (below_go HB7.out hb8)
      clear hb8
      go_wp2_with fail
      go_ret
      exact ⟨rfl, HB8.out⟩
    · have hq2 : decide ((k : Int) < m2) = false := by rw [decide_eq_false_iff_not]; omega
      clear hl1 hl2
      go_wp2_with fail
      rename_i KK hkk
      refine wp_region_held_drew (S := fun v => Below w3.heap.size w3 v) (by kernel_rfl) ((Below.refl _ _).drew) (fun hS => ?_)
      refine wpAnyH_ready (rs := [0]) (by kernel_rfl) (by simp) ?_
      refine rd_call 0 15 rfl rfl (by kernel_rfl) 11 #[] (by kernel_rfl) (R := fun v w' => v = .bool true ∧ Below w3.heap.size w3 w') ((alive_any _).mono fun e w' h => ⟨_, h.1, rfl, below_go hS h.2⟩) (fun v w' h => h.2) ?_ AllReadyH.nil
      rintro v w4 ⟨rfl, hS4⟩
      refine rd_take 1 16 (.bool false) rfl rfl (by kernel_rfl) (by kernel_rfl) (by kernel_rfl) (fun _ _ _ h => h) (by kernel_rfl) (fun v _ => by kernel_rfl) hS4 ?_
      refine rd_take 2 17 (.bool false) rfl rfl (by kernel_rfl) (by kernel_rfl) (by kernel_rfl) (fun _ _ _ h => h) (by kernel_rfl) (fun v _ => by kernel_rfl) hS4 ?_
      refine rd_take 3 18 (.int .i64 k) rfl rfl (by kernel_rfl) (by kernel_rfl) (by kernel_rfl) (fun _ _ _ h => h) (by kernel_rfl) (fun v _ => by kernel_rfl) hS4 ?_
      refine rd_take 4 19 (.bool false) rfl rfl (by kernel_rfl) (by kernel_rfl) (by kernel_rfl) (fun _ _ _ h => h) (by kernel_rfl) (fun v _ => rd_lss rfl (by kernel_rfl) (by kernel_rfl) hz0) hS4 ?_
      refine rd_take 5 20 (.bool false) rfl rfl (by kernel_rfl) (by kernel_rfl) (by kernel_rfl) (fun _ _ _ h => h) (by kernel_rfl) (fun v _ => by kernel_rfl) hS4 ?_
      refine rd_take 6 21 (.bool false) rfl rfl (by kernel_rfl) (by kernel_rfl) (by kernel_rfl) (fun _ _ _ h => h) (by kernel_rfl) (fun v _ => by kernel_rfl) hS4 ?_
      refine rd_take 7 22 (.int .i64 k) rfl rfl (by kernel_rfl) (by kernel_rfl) (by kernel_rfl) (fun _ _ _ h => h) (by kernel_rfl) (fun v _ => by kernel_rfl) hS4 ?_
      refine rd_take 8 23 (.slice p1 m1 m1) rfl rfl (by kernel_rfl) (by kernel_rfl) (by kernel_rfl) (fun _ _ _ h => h) (by kernel_rfl) (fun v _ => by kernel_rfl) hS4 ?_
      refine rd_take 9 24 (.int .i64 m1) rfl rfl (by kernel_rfl) (by kernel_rfl) (by kernel_rfl) (fun _ _ _ h => h) (by kernel_rfl) (fun v _ => by kernel_rfl) hS4 ?_
      refine rd_take 10 25 (.bool false) rfl rfl (by kernel_rfl) (by kernel_rfl) (by kernel_rfl) (fun _ _ _ h => h) (by kernel_rfl) (fun v _ => rd_gtr rfl (by kernel_rfl) (by kernel_rfl) hz1) hS4 ?_
      refine rd_take 11 26 (.bool false) rfl rfl (by kernel_rfl) (by kernel_rfl) (by kernel_rfl) (fun _ _ _ h => h) (by kernel_rfl) (fun v _ => by kernel_rfl) hS4 ?_
      refine rd_take 12 27 (.bool false) rfl rfl (by kernel_rfl) (by kernel_rfl) (by kernel_rfl) (fun _ _ _ h => h) (by kernel_rfl) (fun v _ => by kernel_rfl) hS4 ?_
      refine rd_take 13 28 (.int .i64 k) rfl rfl (by kernel_rfl) (by kernel_rfl) (by kernel_rfl) (fun _ _ _ h => h) (by kernel_rfl) (fun v _ => by kernel_rfl) hS4 ?_
      refine rd_take 14 29 (.slice p2 m2 m2) rfl rfl (by kernel_rfl) (by kernel_rfl) (by kernel_rfl) (fun _ _ _ h => h) (by kernel_rfl) (fun v _ => by kernel_rfl) hS4 ?_
      refine rd_take 15 30 (.int .i64 m2) rfl rfl (by kernel_rfl) (by kernel_rfl) (by kernel_rfl) (fun _ _ _ h => h) (by kernel_rfl) (fun v _ => by kernel_rfl) hS4 ?_
      refine rd_take 16 31 (.bool false) rfl rfl (by kernel_rfl) (by kernel_rfl) (by kernel_rfl) (fun _ _ _ h => h) (by kernel_rfl) (fun v _ => rd_gtr rfl (by kernel_rfl) (by kernel_rfl) hz2) hS4 ?_
      refine rd_take 17 32 (.bool false) rfl rfl (by kernel_rfl) (by kernel_rfl) (by kernel_rfl) (fun _ _ _ h => h) (by kernel_rfl) (fun v _ => by kernel_rfl) hS4 ?_
      refine rd_take 18 33 (.bool false) rfl rfl (by kernel_rfl) (by kernel_rfl) (by kernel_rfl) (fun _ _ _ h => h) (by kernel_rfl) (fun v _ => by kernel_rfl) hS4 ?_
      refine rd_take 19 34 (.slice p1 m1 m1) rfl rfl (by kernel_rfl) (by kernel_rfl) (by kernel_rfl) (fun _ _ _ h => h) (by kernel_rfl) (fun v _ => by kernel_rfl) hS4 ?_
      refine rd_take 20 35 (.int .i64 k) rfl rfl (by kernel_rfl) (by kernel_rfl) (by kernel_rfl) (fun _ _ _ h => h) (by kernel_rfl) (fun v _ => by kernel_rfl) hS4 ?_
      refine rd_take 21 36 (.slice p1 k m1) rfl rfl (by kernel_rfl) (by kernel_rfl) (by kernel_rfl) (fun _ _ _ h => h) (by kernel_rfl) (fun v _ => rd_front (m := m1) rfl (by kernel_rfl) (by kernel_rfl) hk1 hm1 hnil1) hS4 ?_
      refine rd_take 22 37 (.slice p2 m2 m2) rfl rfl (by kernel_rfl) (by kernel_rfl) (by kernel_rfl) (fun _ _ _ h => h) (by kernel_rfl) (fun v _ => by kernel_rfl) hS4 ?_
      refine rd_take 23 38 (.int .i64 k) rfl rfl (by kernel_rfl) (by kernel_rfl) (by kernel_rfl) (fun _ _ _ h => h) (by kernel_rfl) (fun v _ => by kernel_rfl) hS4 ?_
      refine rd_take 24 39 (.slice p2 k m2) rfl rfl (by kernel_rfl) (by kernel_rfl) (by kernel_rfl) (fun _ _ _ h => h) (by kernel_rfl) (fun v _ => rd_front (m := m2) rfl (by kernel_rfl) (by kernel_rfl) hk2 hm2 hnil2) hS4 ?_
      refine wpAnyH_ready (rs := [25]) (by kernel_rfl) (by simp) ?_
      refine rd_call 25 40 rfl rfl (by kernel_rfl) 12 #[.slice p1 k m1, .slice p2 k m2] (by kernel_rfl) (R := fun v w' => v = .bool true ∧ w' = w4) ((HSM.out _ hS4).mono fun e w' h => ⟨_, h.1, rfl, h.2⟩) (fun v w' h => by rw [h.2]; exact hS4) ?_ AllReadyH.nil
      rintro v w5 ⟨rfl, rfl⟩
      refine rd_take 26 41 (.bool false) rfl rfl (by kernel_rfl) (by kernel_rfl) (by kernel_rfl) (fun _ _ _ h => h) (by kernel_rfl) (fun v _ => by kernel_rfl) hS4 ?_
      refine rd_take 27 42 (.bool false) rfl rfl (by kernel_rfl) (by kernel_rfl) (by kernel_rfl) (fun _ _ _ h => h) (by kernel_rfl) (fun v _ => by kernel_rfl) hS4 ?_
      refine rd_take 28 43 (.bool false) rfl rfl (by kernel_rfl) (by kernel_rfl) (by kernel_rfl) (fun _ _ _ h => h) (by kernel_rfl) (fun v _ => by kernel_rfl) hS4 ?_
      refine rd_take 29 44 (.int .i64 k) rfl rfl (by kernel_rfl) (by kernel_rfl) (by kernel_rfl) (fun _ _ _ h => h) (by kernel_rfl) (fun v _ => by kernel_rfl) hS4 ?_
      refine rd_take 30 45 (.slice p1 m1 m1) rfl rfl (by kernel_rfl) (by kernel_rfl) (by kernel_rfl) (fun _ _ _ h => h) (by kernel_rfl) (fun v _ => by kernel_rfl) hS4 ?_
      refine rd_take 31 46 (.int .i64 m1) rfl rfl (by kernel_rfl) (by kernel_rfl) (by kernel_rfl) (fun _ _ _ h => h) (by kernel_rfl) (fun v _ => by kernel_rfl) hS4 ?_
      refine rd_take 32 47 (.bool true) rfl rfl (by kernel_rfl) (by kernel_rfl) (by kernel_rfl) (fun _ _ _ h => h) (by kernel_rfl) (fun v _ => rd_lss rfl (by kernel_rfl) (by kernel_rfl) hq1) hS4 ?_
      refine rd_take 33 48 (.bool true) rfl rfl (by kernel_rfl) (by kernel_rfl) (by kernel_rfl) (fun _ _ _ h => h) (by kernel_rfl) (fun v _ => by kernel_rfl) hS4 ?_
      refine rd_take 34 49 (.int .i64 k) rfl rfl (by kernel_rfl) (by kernel_rfl) (by kernel_rfl) (fun _ _ _ h => h) (by kernel_rfl) (fun v _ => by kernel_rfl) hS4 ?_
      refine rd_take 35 50 (.slice p2 m2 m2) rfl rfl (by kernel_rfl) (by kernel_rfl) (by kernel_rfl) (fun _ _ _ h => h) (by kernel_rfl) (fun v _ => by kernel_rfl) hS4 ?_
      refine rd_take 36 51 (.int .i64 m2) rfl rfl (by kernel_rfl) (by kernel_rfl) (by kernel_rfl) (fun _ _ _ h => h) (by kernel_rfl) (fun v _ => by kernel_rfl) hS4 ?_
      refine rd_take 37 52 (.bool false) rfl rfl (by kernel_rfl) (by kernel_rfl) (by kernel_rfl) (fun _ _ _ h => h) (by kernel_rfl) (fun v _ => rd_lss rfl (by kernel_rfl) (by kernel_rfl) hq2) hS4 ?_
      refine rd_take 38 53 (.bool false) rfl rfl (by kernel_rfl) (by kernel_rfl) (by kernel_rfl) (fun _ _ _ h => h) (by kernel_rfl) (fun v _ => by kernel_rfl) hS4 ?_
      refine rd_take 39 54 (.bool false) rfl rfl (by kernel_rfl) (by kernel_rfl) (by kernel_rfl) (fun _ _ _ h => h) (by kernel_rfl) (fun v _ => by kernel_rfl) hS4 ?_
      refine rd_skip 40 55 rfl rfl (by kernel_rfl) (by kernel_rfl) (by kernel_rfl) (fun _ _ _ h => h) (by kernel_rfl) hS4 ?_
      refine rd_skip 41 56 rfl rfl (by kernel_rfl) (by kernel_rfl) (by kernel_rfl) (fun _ _ _ h => h) (by kernel_rfl) hS4 ?_
      refine rd_skip 42 57 rfl rfl (by kernel_rfl) (by kernel_rfl) (by kernel_rfl) (fun _ _ _ h => h) (by kernel_rfl) hS4 ?_
      refine rd_skip 43 58 rfl rfl (by kernel_rfl) (by kernel_rfl) (by kernel_rfl) (fun _ _ _ h => h) (by kernel_rfl) hS4 ?_
      refine rd_skip 44 59 rfl rfl (by kernel_rfl) (by kernel_rfl) (by kernel_rfl) (fun _ _ _ h => h) (by kernel_rfl) hS4 ?_
      refine rd_skip 45 60 rfl rfl (by kernel_rfl) (by kernel_rfl) (by kernel_rfl) (fun _ _ _ h => h) (by kernel_rfl) hS4 ?_
      refine rd_skip 46 61 rfl rfl (by kernel_rfl) (by kernel_rfl) (by kernel_rfl) (fun _ _ _ h => h) (by kernel_rfl) hS4 ?_
      refine rd_skip 47 62 rfl rfl (by kernel_rfl) (by kernel_rfl) (by kernel_rfl) (fun _ _ _ h => h) (by kernel_rfl) hS4 ?_
      refine rd_skip 48 63 rfl rfl (by kernel_rfl) (by kernel_rfl) (by kernel_rfl) (fun _ _ _ h => h) (by kernel_rfl) hS4 ?_
      refine rd_take 49 64 (.bool false) rfl rfl (by kernel_rfl) (by kernel_rfl) (by kernel_rfl) (fun _ _ _ h => h) (by kernel_rfl) (fun v _ => by kernel_rfl) hS4 ?_
      refine rd_take 50 65 (.bool false) rfl rfl (by kernel_rfl) (by kernel_rfl) (by kernel_rfl) (fun _ _ _ h => h) (by kernel_rfl) (fun v _ => by kernel_rfl) hS4 ?_
      refine wpAnyH_done (by kernel_rfl) ?_ _
      have HS4 := Hid.mk hS4
      clear hS hS4
      refine cut_at (F := ⟨#[.slice a1 n1 c1, .slice a2 n2 c2, undef, undef, .bool false, .slice p1 m1 m1, .slice p2 m2 m2, .int .i64 k, .slice a1 n1 c1, .slice p1 m1 m1, .slice a2 n2 c2, .slice p2 m2 m2, .slice p1 m1 m1, .slice p2 m2 m2, .int .i64 k, .bool true, .bool false, .bool false, .int .i64 k, .bool false, .bool false, .bool false, .int .i64 k, .slice p1 m1 m1, .int .i64 m1, .bool false, .bool false, .bool false, .int .i64 k, .slice p2 m2 m2, .int .i64 m2, .bool false, .bool false, .bool false, .slice p1 m1 m1, .int .i64 k, .slice p1 k m1, .slice p2 m2 m2, .int .i64 k, .slice p2 k m2, .bool true, .bool false, .bool false, .bool false, .int .i64 k, .slice p1 m1 m1, .int .i64 m1, .bool true, .bool true, .int .i64 k, .slice p2 m2 m2, .int .i64 m2, .bool false, .bool false, .bool false, undef, undef, undef, undef, undef, undef, undef, undef, undef, .bool false, .bool false, undef, undef, undef, undef, undef, undef, undef, undef, undef, undef, undef, undef, undef, undef, undef], []⟩) (by kernel_rfl) ?_
      refine hkk _ _ ?_
      clear hkk
      clear hz0 hz1 hz2
      go_wp2_with fail
      refine (HLP.out _ HS4.out).mono ?_
      rintro e w6 ⟨rfl, hb6⟩
      have HB6 := Hid.mk (below_go HS4.out hb6)
      clear hb6
      go_wp2_with fail
      refine (HLA.out _ (below_go HB3.out HB6.out)).mono ?_
      rintro e w7 ⟨rfl, hb7⟩
      have HB7 := Hid.mk (below_go (below_go HB3.out HB6.out) hb7)
      clear hb7
      go_wp2_with fail
      refine (HCA.out _ HB7.out).mono ?_
      rintro e w8 ⟨rfl, hb8⟩
      have HB8 := Hid.mk (below_go HB7.out hb8)
      clear hb8
      go_wp2_with fail
      go_ret
      exact ⟨rfl, HB8.out⟩
  · have hq1 : decide ((k : Int) < m1) = false := by rw [decide_eq_false_iff_not]; omega
    clear hl1 hl2
    go_wp2_with fail
    rename_i KK hkk
    refine wp_region_held_drew (S := fun v => Below w3.heap.size w3 v) (by kernel_rfl) ((Below.refl _ _).drew) (fun hS => ?_)
    refine wpAnyH_ready (rs := [0]) (by kernel_rfl) (by simp) ?_
    refine rd_call 0 15 rfl rfl (by kernel_rfl) 11 #[] (by kernel_rfl) (R := fun v w' => v = .bool true ∧ Below w3.heap.size w3 w') ((alive_any _).mono fun e w' h => ⟨_, h.1, rfl, below_go hS h.2⟩) (fun v w' h => h.2) ?_ AllReadyH.nil
    rintro v w4 ⟨rfl, hS4⟩
    refine rd_take 1 16 (.bool false) rfl rfl (by kernel_rfl) (by kernel_rfl) (by kernel_rfl) (fun _ _ _ h => h) (by kernel_rfl) (fun v _ => by kernel_rfl) hS4 ?_
    refine rd_take 2 17 (.bool false) rfl rfl (by kernel_rfl) (by kernel_rfl) (by kernel_rfl) (fun _ _ _ h => h) (by kernel_rfl) (fun v _ => by kernel_rfl) hS4 ?_
    refine rd_take 3 18 (.int .i64 k) rfl rfl (by kernel_rfl) (by kernel_rfl) (by kernel_rfl) (fun _ _ _ h => h) (by kernel_rfl) (fun v _ => by kernel_rfl) hS4 ?_
    refine rd_take 4 19 (.bool false) rfl rfl (by kernel_rfl) (by kernel_rfl) (by kernel_rfl) (fun _ _ _ h => h) (by kernel_rfl) (fun v _ => rd_lss rfl (by kernel_rfl) (by kernel_rfl) hz0) hS4 ?_
    refine rd_take 5 20 (.bool false) rfl rfl (by kernel_rfl) (by kernel_rfl) (by kernel_rfl) (fun _ _ _ h => h) (by kernel_rfl) (fun v _ => by kernel_rfl) hS4 ?_
    refine rd_take 6 21 (.bool false) rfl rfl (by kernel_rfl) (by kernel_rfl) (by kernel_rfl) (fun _ _ _ h => h) (by kernel_rfl) (fun v _ => by kernel_rfl) hS4 ?_
    refine rd_take 7 22 (.int .i64 k) rfl rfl (by kernel_rfl) (by kernel_rfl) (by kernel_rfl) (fun _ _ _ h => h) (by kernel_rfl) (fun v _ => by kernel_rfl) hS4 ?_
    refine rd_take 8 23 (.slice p1 m1 m1) rfl rfl (by kernel_rfl) (by kernel_rfl) (by kernel_rfl) (fun _ _ _ h => h) (by kernel_rfl) (fun v _ => by kernel_rfl) hS4 ?_
    refine rd_take 9 24 (.int .i64 m1) rfl rfl (by kernel_rfl) (by kernel_rfl) (by kernel_rfl) (fun _ _ _ h => h) (by kernel_rfl) (fun v _ => by kernel_rfl) hS4 ?_
    refine rd_take 10 25 (.bool false) rfl rfl (by kernel_rfl) (by kernel_rfl) (by kernel_rfl) (fun _ _ _ h => h) (by kernel_rfl) (fun v _ => rd_gtr rfl (by kernel_rfl) (by kernel_rfl) hz1) hS4 ?_
    refine rd_take 11 26 (.bool false) rfl rfl (by kernel_rfl) (by kernel_rfl) (by kernel_rfl) (fun _ _ _ h => h) (by kernel_rfl) (fun v _ => by kernel_rfl) hS4 ?_
    refine rd_take 12 27 (.bool false) rfl rfl (by kernel_rfl) (by kernel_rfl) (by kernel_rfl) (fun _ _ _ h => h) (by kernel_rfl) (fun v _ => by kernel_rfl) hS4 ?_
    refine rd_take 13 28 (.int .i64 k) rfl rfl (by kernel_rfl) (by kernel_rfl) (by kernel_rfl) (fun _ _ _ h => h) (by kernel_rfl) (fun v _ => by kernel_rfl) hS4 ?_
    refine rd_take 14 29 (.slice p2 m2 m2) rfl rfl (by kernel_rfl) (by kernel_rfl) (by kernel_rfl) (fun _ _ _ h => h) (by kernel_rfl) (fun v _ => by kernel_rfl) hS4 ?_
    refine rd_take 15 30 (.int .i64 m2) rfl rfl (by kernel_rfl) (by kernel_rfl) (by kernel_rfl) (fun _ _ _ h => h) (by kernel_rfl) (fun v _ => by kernel_rfl) hS4 ?_
    refine rd_take 16 31 (.bool false) rfl rfl (by kernel_rfl) (by kernel_rfl) (by kernel_rfl) (fun _ _ _ h => h) (by kernel_rfl) (fun v _ => rd_gtr rfl (by kernel_rfl) (by kernel_rfl) hz2) hS4 ?_
    refine rd_take 17 32 (.bool false) rfl rfl (by kernel_rfl) (by kernel_rfl) (by kernel_rfl) (fun _ _ _ h => h) (by kernel_rfl) (fun v _ => by kernel_rfl) hS4 ?_
    refine rd_take 18 33 (.bool false) rfl rfl (by kernel_rfl) (by kernel_rfl) (by kernel_rfl) (fun _ _ _ h => h) (by kernel_rfl) (fun v _ => by kernel_rfl) hS4 ?_
    refine rd_take 19 34 (.slice p1 m1 m1) rfl rfl (by kernel_rfl) (by kernel_rfl) (by kernel_rfl) (fun _ _ _ h => h) (by kernel_rfl) (fun v _ => by kernel_rfl) hS4 ?_
    refine rd_take 20 35 (.int .i64 k) rfl rfl (by kernel_rfl) (by kernel_rfl) (by kernel_rfl) (fun _ _ _ h => h) (by kernel_rfl) (fun v _ => by kernel_rfl) hS4 ?_
    refine rd_take 21 36 (.slice p1 k m1) rfl rfl (by kernel_rfl) (by kernel_rfl) (by kernel_rfl) (fun _ _ _ h => h) (by kernel_rfl) (fun v _ => rd_front (m := m1) rfl (by kernel_rfl) (by kernel_rfl) hk1 hm1 hnil1) hS4 ?_
    refine rd_take 22 37 (.slice p2 m2 m2) rfl rfl (by kernel_rfl) (by kernel_rfl) (by kernel_rfl) (fun _ _ _ h => h) (by kernel_rfl) (fun v _ => by kernel_rfl) hS4 ?_
    refine rd_take 23 38 (.int .i64 k) rfl rfl (by kernel_rfl) (by kernel_rfl) (by kernel_rfl) (fun _ _ _ h => h) (by kernel_rfl) (fun v _ => by kernel_rfl) hS4 ?_
    refine rd_take 24 39 (.slice p2 k m2) rfl rfl (by kernel_rfl) (by kernel_rfl) (by kernel_rfl) (fun _ _ _ h => h) (by kernel_rfl) (fun v _ => rd_front (m := m2) rfl (by kernel_rfl) (by kernel_rfl) hk2 hm2 hnil2) hS4 ?_
    refine wpAnyH_ready (rs := [25]) (by kernel_rfl) (by simp) ?_
    refine rd_call 25 40 rfl rfl (by kernel_rfl) 12 #[.slice p1 k m1, .slice p2 k m2] (by kernel_rfl) (R := fun v w' => v = .bool true ∧ w' = w4) ((HSM.out _ hS4).mono fun e w' h => ⟨_, h.1, rfl, h.2⟩) (fun v w' h => by rw [h.2]; exact hS4) ?_ AllReadyH.nil
    rintro v w5 ⟨rfl, rfl⟩
    refine rd_take 26 41 (.bool false) rfl rfl (by kernel_rfl) (by kernel_rfl) (by kernel_rfl) (fun _ _ _ h => h) (by kernel_rfl) (fun v _ => by kernel_rfl) hS4 ?_
    refine rd_take 27 42 (.bool false) rfl rfl (by kernel_rfl) (by kernel_rfl) (by kernel_rfl) (fun _ _ _ h => h) (by kernel_rfl) (fun v _ => by kernel_rfl) hS4 ?_
    refine rd_take 28 43 (.bool false) rfl rfl (by kernel_rfl) (by kernel_rfl) (by kernel_rfl) (fun _ _ _ h => h) (by kernel_rfl) (fun v _ => by kernel_rfl) hS4 ?_
    refine rd_take 29 44 (.int .i64 k) rfl rfl (by kernel_rfl) (by kernel_rfl) (by kernel_rfl) (fun _ _ _ h => h) (by kernel_rfl) (fun v _ => by kernel_rfl) hS4 ?_
    refine rd_take 30 45 (.slice p1 m1 m1) rfl rfl (by kernel_rfl) (by kernel_rfl) (by kernel_rfl) (fun _ _ _ h => h) (by kernel_rfl) (fun v _ => by kernel_rfl) hS4 ?_
    refine rd_take 31 46 (.int .i64 m1) rfl rfl (by kernel_rfl) (by kernel_rfl) (by kernel_rfl) (fun _ _ _ h => h) (by kernel_rfl) (fun v _ => by kernel_rfl) hS4 ?_
    refine rd_take 32 47 (.bool false) rfl rfl (by kernel_rfl) (by kernel_rfl) (by kernel_rfl) (fun _ _ _ h => h) (by kernel_rfl) (fun v _ => rd_lss rfl (by kernel_rfl) (by kernel_rfl) hq1) hS4 ?_
    refine rd_take 33 48 (.bool false) rfl rfl (by kernel_rfl) (by kernel_rfl) (by kernel_rfl) (fun _ _ _ h => h) (by kernel_rfl) (fun v _ => by kernel_rfl) hS4 ?_
    refine rd_skip 34 49 rfl rfl (by kernel_rfl) (by kernel_rfl) (by kernel_rfl) (fun _ _ _ h => h) (by kernel_rfl) hS4 ?_
    refine rd_skip 35 50 rfl rfl (by kernel_rfl) (by kernel_rfl) (by kernel_rfl) (fun _ _ _ h => h) (by kernel_rfl) hS4 ?_
    refine rd_skip 36 51 rfl rfl (by kernel_rfl) (by kernel_rfl) (by kernel_rfl) (fun _ _ _ h => h) (by kernel_rfl) hS4 ?_
    refine rd_skip 37 52 rfl rfl (by kernel_rfl) (by kernel_rfl) (by kernel_rfl) (fun _ _ _ h => h) (by kernel_rfl) hS4 ?_
    refine rd_take 38 53 (.bool false) rfl rfl (by kernel_rfl) (by kernel_rfl) (by kernel_rfl) (fun _ _ _ h => h) (by kernel_rfl) (fun v _ => by kernel_rfl) hS4 ?_
    refine rd_take 39 54 (.bool false) rfl rfl (by kernel_rfl) (by kernel_rfl) (by kernel_rfl) (fun _ _ _ h => h) (by kernel_rfl) (fun v _ => by kernel_rfl) hS4 ?_
    refine rd_skip 40 55 rfl rfl (by kernel_rfl) (by kernel_rfl) (by kernel_rfl) (fun _ _ _ h => h) (by kernel_rfl) hS4 ?_
    refine rd_skip 41 56 rfl rfl (by kernel_rfl) (by kernel_rfl) (by kernel_rfl) (fun _ _ _ h => h) (by kernel_rfl) hS4 ?_
    refine rd_skip 42 57 rfl rfl (by kernel_rfl) (by kernel_rfl) (by kernel_rfl) (fun _ _ _ h => h) (by kernel_rfl) hS4 ?_
    refine rd_skip 43 58 rfl rfl (by kernel_rfl) (by kernel_rfl) (by kernel_rfl) (fun _ _ _ h => h) (by kernel_rfl) hS4 ?_
    refine rd_skip 44 59 rfl rfl (by kernel_rfl) (by kernel_rfl) (by kernel_rfl) (fun _ _ _ h => h) (by kernel_rfl) hS4 ?_
    refine rd_skip 45 60 rfl rfl (by kernel_rfl) (by kernel_rfl) (by kernel_rfl) (fun _ _ _ h => h) (by kernel_rfl) hS4 ?_
    refine rd_skip 46 61 rfl rfl (by kernel_rfl) (by kernel_rfl) (by kernel_rfl) (fun _ _ _ h => h) (by kernel_rfl) hS4 ?_
    refine rd_skip 47 62 rfl rfl (by kernel_rfl) (by kernel_rfl) (by kernel_rfl) (fun _ _ _ h => h) (by kernel_rfl) hS4 ?_
    refine rd_skip 48 63 rfl rfl (by kernel_rfl) (by kernel_rfl) (by kernel_rfl) (fun _ _ _ h => h) (by kernel_rfl) hS4 ?_
    refine rd_take 49 64 (.bool false) rfl rfl (by kernel_rfl) (by kernel_rfl) (by kernel_rfl) (fun _ _ _ h => h) (by kernel_rfl) (fun v _ => by kernel_rfl) hS4 ?_
    refine rd_take 50 65 (.bool false) rfl rfl (by kernel_rfl) (by kernel_rfl) (by kernel_rfl) (fun _ _ _ h => h) (by kernel_rfl) (fun v _ => by kernel_rfl) hS4 ?_
    refine wpAnyH_done (by kernel_rfl) ?_ _
    have HS4 := Hid.mk hS4
    clear hS hS4
    refine cut_at (F := ⟨#[.slice a1 n1 c1, .slice a2 n2 c2, undef, undef, .bool false, .slice p1 m1 m1, .slice p2 m2 m2, .int .i64 k, .slice a1 n1 c1, .slice p1 m1 m1, .slice a2 n2 c2, .slice p2 m2 m2, .slice p1 m1 m1, .slice p2 m2 m2, .int .i64 k, .bool true, .bool false, .bool false, .int .i64 k, .bool false, .bool false, .bool false, .int .i64 k, .slice p1 m1 m1, .int .i64 m1, .bool false, .bool false, .bool false, .int .i64 k, .slice p2 m2 m2, .int .i64 m2, .bool false, .bool false, .bool false, .slice p1 m1 m1, .int .i64 k, .slice p1 k m1, .slice p2 m2 m2, .int .i64 k, .slice p2 k m2, .bool true, .bool false, .bool false, .bool false, .int .i64 k, .slice p1 m1 m1, .int .i64 m1, .bool false, .bool false, undef, undef, undef, undef, .bool false, .bool false, undef, undef, undef, undef, undef, undef, undef, undef, undef, .bool false, .bool false, undef, undef, undef, undef, undef, undef, undef, undef, undef, undef, undef, undef, undef, undef, undef], []⟩) (by kernel_rfl) ?_
    refine hkk _ _ ?_
    clear hkk
    clear hz0 hz1 hz2
    go_wp2_with fail
    refine (HLP.out _ HS4.out).mono ?_
    rintro e w6 ⟨rfl, hb6⟩
    have HB6 := Hid.mk (below_go HS4.out hb6)
    clear hb6
    go_wp2_with fail
    refine (HLA.out _ (below_go HB3.out HB6.out)).mono ?_
    rintro e w7 ⟨rfl, hb7⟩
    have HB7 := Hid.mk (below_go (below_go HB3.out HB6.out) hb7)
    clear hb7
    go_wp2_with fail
    refine (HCA.out _ HB7.out).mono ?_
    rintro e w8 ⟨rfl, hb8⟩
    have HB8 := Hid.mk (below_go HB7.out hb8)
    clear hb8
    go_wp2_with fail
    go_ret
    exact ⟨rfl, HB8.out⟩
end Go.Proofs.Ytgbkgfmmlmojhaa

/- What rightKids answers. -/
import Derived.Test.YtchgejomcgoaeaaGreatG29
import Derived.Test.YtchgejomcgoaeaaGreatG28
set_option linter.unusedVariables false
set_option maxRecDepth 100000
namespace Go.Proofs.YtchgejomcgoaeaaGreat
open Go.RowKit
theorem Zf9 : ∀ (l : List PR) (r : PR), ways (l ++ [r]) = ways l + (if r.k ≠ 0 then 1 else 0)
  | [], r => by simp [ways]
  | a :: l, r => by rw [List.cons_append, ways, ways, Zf9 l r]; omega
theorem Zga : ∀ l : List PR, ways l ≤ l.length
  | [] => by simp [ways]
  | r :: l => by
    have := Zga l
    rw [ways, List.length_cons]
    split <;> omega
theorem Zc2 {ks : List PR} {j : Nat} {r : PR} (h : ks[j]? = some r) : ks.take (j + 1) = ks.take j ++ [r] := by
  rw [List.take_add_one, h]; rfl
theorem Zhq (w1 : World) (y : RV) (hl : y.d.length = 32) (C : Array Value) : RBx w1.heap.size ((w1.alloc (.cells C 65)).setRow w1.heap.size y.cells.toArray) y := ⟨setRow_heap _ _ _ _ _ _ (heap_alloc_new w1 _), hl⟩
theorem Ztz : (rz.cells.toArray : Array Value).size = 34 := rfl
set_option maxHeartbeats 4000000 in
theorem Zii (K : Nat → Prop) (x : NV) (n : PN) (w : World) (h : NodeAt K w x n) (hd : ∀ r ∈ n.ks, r.i.length < 32 → DecSaid r.i) :
    Calls Tryz.prog 89 #[.agg x.cells.toArray] w fun e w' => e = .returned (.bool (rkidsP KD n)) ∧ Below w.heap.size w w' := by
  have B := Zeg w x h.c.len
  have HB := Hid.mk (below_new w (.cells x.cells.toArray 68))
  have HKS := Hid.mk h.ks
  have hm := h.m
  have HKL := Hid.mk hm.1
  obtain ⟨-, hm2, hm3, hm4, hm5⟩ := hm
  unfold maxLen at hm3
  have HM5 := Hid.mk hm5
  obtain ⟨res, hres⟩ : ∃ res, rkidsP KD n = res := ⟨_, rfl⟩
  rw [hres]
  unfold rkidsP at hres
  rw [← h.k, ← HKL.out, h.v.l] at hres
  have HRES := Hid.mk hres
  have hvn := h.v.2.1
  have HD := Hid.mk hd
  clear h hd hres hm5
  go_enter Tryz.func89, Tryz.ntmps89
  go_upto_region 1 with fail
  refine gen_w (p := fun v => Code.wp _ _ _ _ v) (q := fun v => NBx w.heap.size v x ∧ Below w.heap.size w v) ⟨B, HB.out⟩ ?_
  clear B HB
  rintro v ⟨B, hb⟩
  have HB := Hid.mk hb
  have c0 := B.c0
  have c2 := B.c2
  have c37 := B.c37
  obtain ⟨ka, hka0⟩ : ∃ ka, x.ka = ka := ⟨_, rfl⟩
  rw [hka0] at c37 HKS HM5
  clear hb B hka0
  by_cases h3 : x.k = 3
  · by_cases h16 : x.kn = 16
    · obtain ⟨wy, hwy⟩ : ∃ wy : Nat, (if 0 < x.vn then 1 else 0) = wy := ⟨_, rfl⟩
      have HWY := Hid.mk hwy
      rw [h16] at HKL c37 hm2 hm4
      by_cases hv : 0 < x.vn
      · have e1 : wy = 1 := by rw [← hwy, if_pos hv]
        have hvi : (x.vn : Int) > 0 := by omega
        subst e1
        clear hwy
        go_wp2_with fail
        go_loopw [3, 26] (fun s3 s26 v => ∃ j : Nat, j ≤ 16 ∧ s26 = .int .i64 j ∧ s3 = .int .i64 ((1 + ways (n.ks.take j) : Nat) : Int) ∧ (∀ r ∈ n.ks.take j, rrefP KD r = true) ∧ Below w.heap.size w v) (fun _ s26 _ => 16 - (intOf s26).toNat)
        case atStart => exact ⟨0, by omega, rfl, rfl, fun r hr => by simp at hr, HB.out⟩
        case round =>
          obtain ⟨j, hj, rfl, rfl, hall, hbv⟩ := hrel
          have HALL := Hid.mk hall
          have HBV := Hid.mk hbv
          clear hall hbv
          by_cases hlt : j < 16
          · have hji : (j : Int) < 16 := by omega
            obtain ⟨r, hr⟩ : ∃ r, n.ks[j]? = some r := ⟨_, List.getElem?_eq_getElem (by have := HKL.out; omega)⟩
            obtain ⟨g, off, y, hka, _, hrg, hy⟩ := HKS.out j r hr
            have HRG := Hid.mk (Zd1 hrg (fun hl => HBV.out.block g hl))
            have HYL := Hid.mk hy.len
            have HI := Hid.mk (show (Tryz.prog.info? 65).map (·.size) = some y.cells.toArray.size from by rw [Zhi, List.size_toArray, RV.len HYL.out])
            have HS := Hid.mk (show (rz.cells.toArray : Array Value).size = y.cells.toArray.size from by rw [Ztz, List.size_toArray, RV.len HYL.out])
            have HO := Hid.mk (all_oneCell_toArray y.one)
            obtain ⟨q, hq⟩ : ∃ q, rrefP KD r = q := ⟨_, rfl⟩
            have HRR := Hid.mk (show ∀ u, Below w.heap.size w u → Calls Tryz.prog 114 #[.agg y.cells.toArray] u fun e w' => e = .returned (.bool q) ∧ Below u.heap.size u w' from fun u hu => by
              rw [← hq]; exact Zdo K y r u (hy.go (Keep.below hu)) (HD.out r (List.mem_of_getElem? hr)))
            have HQ := Hid.mk hq
            have HR := Hid.mk hr
            have HYK := Hid.mk hy.1
            have hwl : ways (n.ks.take j) ≤ j := by have := Zga (n.ks.take j); rw [List.length_take] at this; omega
            have HW := Hid.mk (show ways (n.ks.take (j + 1)) = ways (n.ks.take j) + (if y.k ≠ 0 then 1 else 0) from by rw [Zc2 hr, Zf9, hy.1])
            clear hrg hy hq hr
            subst hka
            go_upto_region 11 with (first | refine Zbf rfl _ rfl g (off + j * 34) rfl y HYL.out HRG.out ?_ | refine wpList_store_row rfl 65 _ _ rfl _ y.cells.toArray rfl rfl 65 _ (heap_alloc_new _ _) HI.out HS.out HO.out ?_)
            refine gen_w (p := fun v => Code.wp _ _ _ _ v) (q := fun v => RBx wr.heap.size v y ∧ Below w.heap.size w v) ⟨Zhq _ _ HYL.out _, Below.setRow (HBV.out.alloc HBV.out.size _) HBV.out.size _⟩ ?_
            rintro v2 ⟨B2, hb2⟩
            have HX2 := Hid.mk B2
            have HB2 := Hid.mk hb2
            clear B2 hb2
            go_wp2_with (first | refine Zbf rfl _ rfl wr.heap.size 0 rfl y HYL.out HX2.out.all ?_)
            refine (HRR.out v2 HB2.out).mono ?_
            rintro e w3 ⟨rfl, hb3⟩
            have B3 := HX2.out.go hb3
            have c03 := B3.c0
            have HB3 := Hid.mk (below_go HB2.out hb3)
            clear hb3 B3
            cases q with
            | false =>
              go_wp2_with fail
              go_ret
              refine ⟨congrArg (fun b => Ending.returned (Value.bool b)) ?_, HB3.out⟩
              rw [← HRES.out, h3, h16, if_neg (by decide), if_neg (by decide)]
              have hno : n.ks.all (rrefP KD) = false := by
                rw [List.all_eq_false]
                exact ⟨r, List.mem_of_getElem? HR.out, by rw [HQ.out]; simp⟩
              rw [hno]
              rfl
            | true =>
              have HALL2 := Hid.mk (show ∀ r ∈ n.ks.take (j + 1), rrefP KD r = true from fun r' hr' => by
                rw [Zc2 HR.out] at hr'
                rcases List.mem_append.1 hr' with h | h
                · exact HALL.out r' h
                · simp only [List.mem_cons, List.not_mem_nil, or_false] at h
                  rw [h]; exact HQ.out)
              by_cases hk0 : y.k = 0
              · have hw2 := HW.out
                rw [if_neg (by simp [hk0])] at hw2
                have HW2 := Hid.mk hw2
                clear hw2
                go_wp2_with fail
                go_roundw
                case rel => exact ⟨j + 1, by omega, by simp, by rw [HW2.out]; simp, HALL2.out, HB3.out⟩
                case measure => simp [intOf]; omega
              · have hw2 := HW.out
                rw [if_pos hk0] at hw2
                have HW2 := Hid.mk hw2
                clear hw2
                go_wp2_with fail
                go_roundw
                case rel => exact ⟨j + 1, by omega, by simp, by rw [HW2.out]; first | (simp; done) | (simp; omega), HALL2.out, HB3.out⟩
                case measure => simp [intOf]; omega
          · have hji : ¬ (j : Int) < 16 := by omega
            have e16 : n.ks.take j = n.ks := List.take_of_length_le (by have := HKL.out; omega)
            rw [e16] at HALL ⊢
            have hyes : n.ks.all (rrefP KD) = true := List.all_eq_true.2 HALL.out
            have HYES := Hid.mk hyes
            have hwl : ways n.ks ≤ 16 := by have := Zga n.ks; have := HKL.out; omega
            clear hyes e16
            go_wp2_with fail
            go_ret
            refine ⟨congrArg (fun b => Ending.returned (Value.bool b)) ?_, HBV.out⟩
            rw [← HRES.out, h3, h16, if_neg (by decide), if_neg (by decide), HYES.out, Bool.true_and, Bool.eq_iff_iff, HWY.out]
            simp
            try omega
      · have e1 : wy = 0 := by rw [← hwy, if_neg hv]
        have hvi : ¬ (x.vn : Int) > 0 := by omega
        subst e1
        clear hwy
        go_wp2_with fail
        go_loopw [3, 26] (fun s3 s26 v => ∃ j : Nat, j ≤ 16 ∧ s26 = .int .i64 j ∧ s3 = .int .i64 ((0 + ways (n.ks.take j) : Nat) : Int) ∧ (∀ r ∈ n.ks.take j, rrefP KD r = true) ∧ Below w.heap.size w v) (fun _ s26 _ => 16 - (intOf s26).toNat)
        case atStart => exact ⟨0, by omega, rfl, rfl, fun r hr => by simp at hr, HB.out⟩
        case round =>
          obtain ⟨j, hj, rfl, rfl, hall, hbv⟩ := hrel
          have HALL := Hid.mk hall
          have HBV := Hid.mk hbv
          clear hall hbv
          by_cases hlt : j < 16
          · have hji : (j : Int) < 16 := by omega
            obtain ⟨r, hr⟩ : ∃ r, n.ks[j]? = some r := ⟨_, List.getElem?_eq_getElem (by have := HKL.out; omega)⟩
            obtain ⟨g, off, y, hka, _, hrg, hy⟩ := HKS.out j r hr
            have HRG := Hid.mk (Zd1 hrg (fun hl => HBV.out.block g hl))
            have HYL := Hid.mk hy.len
            have HI := Hid.mk (show (Tryz.prog.info? 65).map (·.size) = some y.cells.toArray.size from by rw [Zhi, List.size_toArray, RV.len HYL.out])
            have HS := Hid.mk (show (rz.cells.toArray : Array Value).size = y.cells.toArray.size from by rw [Ztz, List.size_toArray, RV.len HYL.out])
            have HO := Hid.mk (all_oneCell_toArray y.one)
            obtain ⟨q, hq⟩ : ∃ q, rrefP KD r = q := ⟨_, rfl⟩
            have HRR := Hid.mk (show ∀ u, Below w.heap.size w u → Calls Tryz.prog 114 #[.agg y.cells.toArray] u fun e w' => e = .returned (.bool q) ∧ Below u.heap.size u w' from fun u hu => by
              rw [← hq]; exact Zdo K y r u (hy.go (Keep.below hu)) (HD.out r (List.mem_of_getElem? hr)))
            have HQ := Hid.mk hq
            have HR := Hid.mk hr
            have HYK := Hid.mk hy.1
            have hwl : ways (n.ks.take j) ≤ j := by have := Zga (n.ks.take j); rw [List.length_take] at this; omega
            have HW := Hid.mk (show ways (n.ks.take (j + 1)) = ways (n.ks.take j) + (if y.k ≠ 0 then 1 else 0) from by rw [Zc2 hr, Zf9, hy.1])
            clear hrg hy hq hr
            subst hka
            go_upto_region 11 with (first | refine Zbf rfl _ rfl g (off + j * 34) rfl y HYL.out HRG.out ?_ | refine wpList_store_row rfl 65 _ _ rfl _ y.cells.toArray rfl rfl 65 _ (heap_alloc_new _ _) HI.out HS.out HO.out ?_)
            refine gen_w (p := fun v => Code.wp _ _ _ _ v) (q := fun v => RBx wr.heap.size v y ∧ Below w.heap.size w v) ⟨Zhq _ _ HYL.out _, Below.setRow (HBV.out.alloc HBV.out.size _) HBV.out.size _⟩ ?_
            rintro v2 ⟨B2, hb2⟩
            have HX2 := Hid.mk B2
            have HB2 := Hid.mk hb2
            clear B2 hb2
            go_wp2_with (first | refine Zbf rfl _ rfl wr.heap.size 0 rfl y HYL.out HX2.out.all ?_)
            refine (HRR.out v2 HB2.out).mono ?_
            rintro e w3 ⟨rfl, hb3⟩
            have B3 := HX2.out.go hb3
            have c03 := B3.c0
            have HB3 := Hid.mk (below_go HB2.out hb3)
            clear hb3 B3
            cases q with
            | false =>
              go_wp2_with fail
              go_ret
              refine ⟨congrArg (fun b => Ending.returned (Value.bool b)) ?_, HB3.out⟩
              rw [← HRES.out, h3, h16, if_neg (by decide), if_neg (by decide)]
              have hno : n.ks.all (rrefP KD) = false := by
                rw [List.all_eq_false]
                exact ⟨r, List.mem_of_getElem? HR.out, by rw [HQ.out]; simp⟩
              rw [hno]
              rfl
            | true =>
              have HALL2 := Hid.mk (show ∀ r ∈ n.ks.take (j + 1), rrefP KD r = true from fun r' hr' => by
                rw [Zc2 HR.out] at hr'
                rcases List.mem_append.1 hr' with h | h
                · exact HALL.out r' h
                · simp only [List.mem_cons, List.not_mem_nil, or_false] at h
                  rw [h]; exact HQ.out)
              by_cases hk0 : y.k = 0
              · have hw2 := HW.out
                rw [if_neg (by simp [hk0])] at hw2
                have HW2 := Hid.mk hw2
                clear hw2
                go_wp2_with fail
                go_roundw
                case rel => exact ⟨j + 1, by omega, by simp, by rw [HW2.out]; simp, HALL2.out, HB3.out⟩
                case measure => simp [intOf]; omega
              · have hw2 := HW.out
                rw [if_pos hk0] at hw2
                have HW2 := Hid.mk hw2
                clear hw2
                go_wp2_with fail
                go_roundw
                case rel => exact ⟨j + 1, by omega, by simp, by rw [HW2.out]; first | (simp; done) | (simp; omega), HALL2.out, HB3.out⟩
                case measure => simp [intOf]; omega
          · have hji : ¬ (j : Int) < 16 := by omega
            have e16 : n.ks.take j = n.ks := List.take_of_length_le (by have := HKL.out; omega)
            rw [e16] at HALL ⊢
            have hyes : n.ks.all (rrefP KD) = true := List.all_eq_true.2 HALL.out
            have HYES := Hid.mk hyes
            have hwl : ways n.ks ≤ 16 := by have := Zga n.ks; have := HKL.out; omega
            clear hyes e16
            go_wp2_with fail
            go_ret
            refine ⟨congrArg (fun b => Ending.returned (Value.bool b)) ?_, HBV.out⟩
            rw [← HRES.out, h3, h16, if_neg (by decide), if_neg (by decide), HYES.out, Bool.true_and, Bool.eq_iff_iff, HWY.out]
            simp
            try omega
    · go_wp2_with fail
      go_ret
      refine ⟨congrArg (fun b => Ending.returned (Value.bool b)) ?_, HB.out⟩
      rw [← HRES.out, Bool.eq_iff_iff]
      first | (simp [h3, h16]; done) | (simp [h3, h16]; omega)
  · go_wp2_with fail
    go_ret
    refine ⟨congrArg (fun b => Ending.returned (Value.bool b)) ?_, HB.out⟩
    rw [← HRES.out, Bool.eq_iff_iff]
    first | (simp [h3]; done) | (simp [h3]; omega)
set_option maxHeartbeats 4000000 in
theorem Zox (K : Nat → Prop) (x : NV) (n : PN) (w : World) (h : NodeAt K w x n) (hd : ∀ r, (r = n.c ∨ r ∈ n.ks) → r.i.length < 32 → DecSaid r.i) :
    Calls Tryz.prog 55 #[.agg x.cells.toArray] w fun e w' => e = .returned (.bool (NR n)) ∧ Below w.heap.size w w' := by
  have B := Zeg w x h.c.len
  have HB := Hid.mk (below_new w (.cells x.cells.toArray 68))
  obtain ⟨q0, hq0⟩ : ∃ q, knownP n = q := ⟨_, rfl⟩
  obtain ⟨q1, hq1⟩ : ∃ q, rpathP n = q := ⟨_, rfl⟩
  obtain ⟨q2, hq2⟩ : ∃ q, rvalueP n = q := ⟨_, rfl⟩
  obtain ⟨q3, hq3⟩ : ∃ q, rchildP KD n = q := ⟨_, rfl⟩
  obtain ⟨q4, hq4⟩ : ∃ q, rkidsP KD n = q := ⟨_, rfl⟩
  have H1 := Hid.mk (show ∀ v, Below w.heap.size w v → Calls Tryz.prog 86 #[.agg x.cells.toArray] v fun e w' => e = .returned (.bool q1) ∧ Below v.heap.size v w' from fun v hv => by
    rw [← hq1]; exact Zih K x n v (h.go (Keep.below hv)))
  have H2 := Hid.mk (show ∀ v, Below w.heap.size w v → Calls Tryz.prog 87 #[.agg x.cells.toArray] v fun e w' => e = .returned (.bool q2) ∧ Below v.heap.size v w' from fun v hv => by
    rw [← hq2]; exact Zhe K x n v (h.go (Keep.below hv)))
  have H3 := Hid.mk (show ∀ v, Below w.heap.size w v → Calls Tryz.prog 88 #[.agg x.cells.toArray] v fun e w' => e = .returned (.bool q3) ∧ Below v.heap.size v w' from fun v hv => by
    rw [← hq3]; exact Zhf K x n v (h.go (Keep.below hv)) (hd _ (.inl rfl)))
  have H4 := Hid.mk (show ∀ v, Below w.heap.size w v → Calls Tryz.prog 89 #[.agg x.cells.toArray] v fun e w' => e = .returned (.bool q4) ∧ Below v.heap.size v w' from fun v hv => by
    rw [← hq4]; exact Zii K x n v (h.go (Keep.below hv)) (fun r hr => hd r (.inr hr)))
  have HNR := Hid.mk (show NR n = (q0 && q1 && q2 && q3 && q4) from by unfold NR nright; rw [hq0, hq1, hq2, hq3, hq4])
  rw [HNR.out]
  have HQ0 := Hid.mk (show (decide (x.k = 1) || decide (x.k = 2) || decide (x.k = 3)) = q0 from by rw [← hq0, h.k]; rfl)
  clear hq0 hq1 hq2 hq3 hq4 h hd HNR
  go_enter Tryz.func55, Tryz.ntmps55
  go_upto_region 1 with fail
  refine gen_w (p := fun v => Code.wp _ _ _ _ v) (q := fun v => NBx w.heap.size v x ∧ Below w.heap.size w v) ⟨B, HB.out⟩ ?_
  clear B HB
  rintro v ⟨B, hb⟩
  have HB := Hid.mk hb
  have HX := Hid.mk B
  have c0 := B.c0
  clear hb B
  go_cut [3] from 3 to 16 (fun s3 u => s3 = .bool q0 ∧ u = v)
  case first =>
    by_cases k1 : x.k = 1
    · have hq := HQ0.out
      simp [k1] at hq
      subst hq
      go_wp2_with fail
      go_meet
      exact ⟨rfl, rfl⟩
    · by_cases k2 : x.k = 2
      · have hq := HQ0.out
        simp [k2] at hq
        subst hq
        go_wp2_with fail
        go_meet
        exact ⟨rfl, rfl⟩
      · by_cases k3 : x.k = 3
        · have hq := HQ0.out
          simp [k3] at hq
          subst hq
          go_wp2_with fail
          go_meet
          exact ⟨rfl, rfl⟩
        · have hq := HQ0.out
          simp [k1, k2, k3] at hq
          subst hq
          have e1 : (x.k == 1) = false := by simp [k1]
          have e2 : (x.k == 2) = false := by simp [k2]
          have e3 : (x.k == 3) = false := by simp [k3]
          go_wp2_with fail
          go_meet
          exact ⟨rfl, rfl⟩
  case rest =>
    obtain ⟨rfl, rfl⟩ := hcut
    cases q0 with
    | false =>
      go_wp2_with fail
      go_ret
      exact ⟨rfl, HB.out⟩
    | true =>
      go_wp2_with (first | refine Zb4 rfl _ rfl w.heap.size rfl x HX.out ?_)
      refine (H1.out _ HB.out).mono ?_
      rintro e w1 ⟨rfl, hb1⟩
      have HX1 := Hid.mk (HX.out.go hb1)
      have HB1 := Hid.mk (below_go HB.out hb1)
      clear hb1
      cases q1 with
      | false =>
        go_wp2_with fail
        go_ret
        exact ⟨rfl, HB1.out⟩
      | true =>
        go_wp2_with (first | refine Zb4 rfl _ rfl w.heap.size rfl x HX1.out ?_)
        refine (H2.out w1 HB1.out).mono ?_
        rintro e w2 ⟨rfl, hb2⟩
        have HX2 := Hid.mk (HX1.out.go hb2)
        have HB2 := Hid.mk (below_go HB1.out hb2)
        clear hb2
        cases q2 with
        | false =>
          go_wp2_with fail
          go_ret
          exact ⟨rfl, HB2.out⟩
        | true =>
          go_wp2_with (first | refine Zb4 rfl _ rfl w.heap.size rfl x HX2.out ?_)
          refine (H3.out w2 HB2.out).mono ?_
          rintro e w3 ⟨rfl, hb3⟩
          have HX3 := Hid.mk (HX2.out.go hb3)
          have HB3 := Hid.mk (below_go HB2.out hb3)
          clear hb3
          cases q3 with
          | false =>
            go_wp2_with fail
            go_ret
            exact ⟨rfl, HB3.out⟩
          | true =>
            go_wp2_with (first | refine Zb4 rfl _ rfl w.heap.size rfl x HX3.out ?_)
            refine (H4.out w3 HB3.out).mono ?_
            rintro e w4 ⟨rfl, hb4⟩
            have HX4 := Hid.mk (HX3.out.go hb4)
            have HB4 := Hid.mk (below_go HB3.out hb4)
            clear hb4
            go_wp2_with fail
            go_ret
            exact ⟨rfl, HB4.out⟩
theorem Zoh {b : List Int} {t : T} (hb : isB b) (h : decP b = .ok t) : ∀ u ∈ t.its, u.bs.length ≤ 16777216 := fun u hu => by
  obtain ⟨h1, h2, h3⟩ := Zff hb h
  have hbo := (Zg4 h2).2.1
  have l1 := Zdj u
  have l2 := Zdg hu
  have l3 : (bodyOf t).length = t.bs.length + (encs t.its).length := by unfold bodyOf; rw [List.length_append]
  have l4 : (bodyOf u).length = u.bs.length + (encs u.its).length := by unfold bodyOf; rw [List.length_append]
  omega
structure Dd (w v : World) : Prop where
  row : v.heap[w.heap.size]? = some (.cells nz.cells.toArray 68)
  bel : Below w.heap.size w v
  sz : w.heap.size + 1 ≤ v.heap.size
theorem Dd.go {w v v' : World} (h : Dd w v) (hb : Below v.heap.size v v') : Dd w v' := ⟨Below.row hb h.row, below_go h.bel hb, Nat.le_trans h.sz hb.size⟩
theorem Zyk (w : World) : Dd w (w.alloc (.cells nz.cells.toArray 68)) := ⟨heap_alloc_new _ _, below_new _ _, by simp⟩
set_option maxHeartbeats 8000000 in
theorem Zla (b : List Int) (hr : isB b → ∀ i, i.length < b.length → i.length < 32 → isB i → DecSaid i) : DecSaid b := by
  intro a n c w hag hn
  have hbB : isB b := hag.b
  have HREC := Hid.mk (hr hbB)
  have HAG := Hid.mk hag
  have HBB := Hid.mk hbB
  obtain ⟨res, hres⟩ : ∃ res, ND b = res := ⟨_, rfl⟩
  rw [hres]
  rw [Zyz hbB] at hres
  have HRES := Hid.mk hres
  have HDD0 := Hid.mk (Zyk w)
  clear hag hr hres hbB
  go_enter Tryz.func28, Tryz.ntmps28
  go_upto_region 1 with fail
  refine gen_w (p := fun v => Code.wp _ _ _ _ v) (q := fun v => Dd w v) HDD0.out ?_
  clear HDD0
  intro v D0
  have HD0 := Hid.mk D0
  have HCD := Hid.mk (Zh4 a n c b v (HAG.out.at D0.bel) hn)
  clear D0
  go_wp2_with fail
  refine HCD.out.mono ?_
  intro e w1 hp
  obtain ⟨hb1, hp⟩ := hp
  have HD1 := Hid.mk (HD0.out.go hb1)
  have HV0 := Hid.mk HD0.out.sz
  cases hq : decP b with
  | bad er =>
    rw [hq] at hp
    have hr := HRES.out
    rw [hq] at hr
    have hr : none = res := hr
    subst hr
    obtain ⟨rfl, her⟩ := hp
    have hee : ((er : Int) != 0) = true := by rw [bne_iff_ne]; omega
    clear hb1 hq her
    go_upto_region 2 with fail
    refine gen_w (p := fun v => Code.wp _ _ _ _ v) (q := fun v => Dd w v) (HD1.out.go (below_new w1 _)) ?_
    intro v2 D2
    have HD2 := Hid.mk D2
    clear D2
    go_wp2_with (first | refine wpList_store_row rfl 68 _ _ rfl _ nz.cells.toArray rfl rfl 68 _ HD2.out.row (Zbj rfl) (Zbe rfl) (all_oneCell_toArray (NV.one _)) ?_)
    refine bodyPost_ret (Zbg Tryz.results28 _ _ w.heap.size nz rfl rfl (setRow_heap _ _ _ _ _ _ HD2.out.row)) rfl ?_
    exact ⟨Below.setRow HD2.out.bel (Nat.le_refl _) _, rfl⟩
  | ok t =>
    rw [hq] at hp
    have hr := HRES.out
    rw [hq] at hr
    obtain ⟨y, rfl, hy⟩ := hp
    have HLY := Hid.mk (show LiesP (fun b => w.heap.size + 1 ≤ b) w1 t y from Zax (fun b hb hlt => ⟨rfl, by have := HV0.out; omega⟩) _ _ hy)
    have hr : (match nodeOfP t with
      | none => none
      | some n => if NR n = true then some n else none) = res := hr
    have HR := Hid.mk hr
    have HSM := Hid.mk (Zoh HBB.out hq)
    have HSB := Hid.mk (fun n hn => Zes (n := n) HBB.out hq hn)
    clear hb1 hq hy hr HRES
    go_upto_region 2 with fail
    refine gen_w (p := fun v => Code.wp _ _ _ _ v) (q := fun v => Dd w v ∧ B1 w1.heap.size v y ∧ LiesP (fun b => w.heap.size + 1 ≤ b) v t y) ⟨HD1.out.go (below_new w1 _), Zfs w1 y, Zax (fun b hb hlt => ⟨heap_alloc_old _ _ hlt, hb⟩) _ _ HLY.out⟩ ?_
    rintro v2 ⟨D2, B2, L2⟩
    have c0 := B2.c0
    have c1 := B2.c1
    have c2 := B2.c2
    have HD2 := Hid.mk D2
    have HNO := Hid.mk (Znf (w.heap.size + 1) t y v2 L2 D2.sz HSM.out)
    clear D2 B2 L2
    go_wp2_with fail
    refine HNO.out.mono ?_
    intro e w3 hp
    obtain ⟨hb3, hp⟩ := hp
    have HD3 := Hid.mk (HD2.out.go hb3)
    have hr := HR.out
    cases hq : nodeOfP t with
    | none =>
      rw [hq] at hp hr
      have hr : none = res := hr
      subst hr
      obtain ⟨y', hl', rfl⟩ := hp
      have HL := Hid.mk hl'
      clear hb3 hq hl' c0 c1 c2
      go_upto_region 5 with (first | refine wpList_store_row rfl 68 _ _ rfl _ y'.cells.toArray rfl rfl 68 _ (heap_alloc_new _ _) (Zbj HL.out) (Zbe HL.out) (all_oneCell_toArray (NV.one _)) ?_)
      refine gen_w (p := fun v => Code.wp _ _ _ _ v) (q := fun v => Dd w v) (HD3.out.go (Below.setRow (below_new w3 _) (Nat.le_refl _) _)) ?_
      intro v4 D4
      have HD4 := Hid.mk D4
      clear D4
      go_wp2_with (first | refine wpList_store_row rfl 68 _ _ rfl _ nz.cells.toArray rfl rfl 68 _ HD4.out.row (Zbj rfl) (Zbe rfl) (all_oneCell_toArray (NV.one _)) ?_)
      refine bodyPost_ret (Zbg Tryz.results28 _ _ w.heap.size nz rfl rfl (setRow_heap _ _ _ _ _ _ HD4.out.row)) rfl ?_
      exact ⟨Below.setRow HD4.out.bel (Nat.le_refl _) _, rfl⟩
    | some nn =>
      rw [hq] at hp hr
      obtain ⟨y', rfl, hna⟩ := hp
      have hr : (if NR nn = true then some nn else none) = res := hr
      have HL := Hid.mk hna.c.len
      have HNA := Hid.mk hna
      have HRI := Hid.mk (show ∀ u, NodeAt (fun _ => True) u y' nn → Calls Tryz.prog 55 #[.agg y'.cells.toArray] u fun e w' => e = .returned (.bool (NR nn)) ∧ Below u.heap.size u w' from fun u hu => Zox _ y' nn u hu (fun r hrr h32 => by
        obtain ⟨s1, s2⟩ := HSB.out nn hq r hrr
        exact HREC.out r.i s1 h32 s2))
      obtain ⟨q, hqq⟩ : ∃ q, NR nn = q := ⟨_, rfl⟩
      rw [hqq] at hr HRI
      have HR2 := Hid.mk hr
      clear hb3 hq hna c0 c1 c2 hr hqq
      go_upto_region 5 with (first | refine wpList_store_row rfl 68 _ _ rfl _ y'.cells.toArray rfl rfl 68 _ (heap_alloc_new _ _) (Zbj HL.out) (Zbe HL.out) (all_oneCell_toArray (NV.one _)) ?_)
      refine gen_w (p := fun v => Code.wp _ _ _ _ v) (q := fun v => Dd w v ∧ NBx w3.heap.size v y' ∧ Below w3.heap.size w3 v) ⟨HD3.out.go (Below.setRow (below_new w3 _) (Nat.le_refl _) _), ⟨setRow_heap _ _ _ _ _ _ (heap_alloc_new _ _), HL.out⟩, Below.setRow (below_new w3 _) (Nat.le_refl _) _⟩ ?_
      rintro v4 ⟨D4, N4, b4⟩
      have HD4 := Hid.mk D4
      have HN4 := Hid.mk N4
      have HB4 := Hid.mk b4
      clear D4 N4 b4
      go_wp2_with (first | refine Zb4 rfl _ rfl w3.heap.size rfl y' HN4.out ?_)
      refine (HRI.out v4 (HNA.out.go (Keep.any HB4.out))).mono ?_
      rintro e w5 ⟨rfl, hb5⟩
      have HD5 := Hid.mk (HD4.out.go hb5)
      have HN5 := Hid.mk (HN4.out.go hb5)
      have HB5 := Hid.mk (below_go HB4.out hb5)
      clear hb5
      have hr := HR2.out
      cases q with
      | false =>
        rw [if_neg (by simp)] at hr
        subst hr
        go_wp2_with (first | refine wpList_store_row rfl 68 _ _ rfl _ nz.cells.toArray rfl rfl 68 _ HD5.out.row (Zbj rfl) (Zbe rfl) (all_oneCell_toArray (NV.one _)) ?_)
        refine bodyPost_ret (Zbg Tryz.results28 _ _ w.heap.size nz rfl rfl (setRow_heap _ _ _ _ _ _ HD5.out.row)) rfl ?_
        exact ⟨Below.setRow HD5.out.bel (Nat.le_refl _) _, rfl⟩
      | true =>
        rw [if_pos rfl] at hr
        subst hr
        go_wp2_with (first | refine Zb4 rfl _ rfl w3.heap.size rfl y' HN5.out ?_ | refine wpList_store_row rfl 68 _ _ rfl _ y'.cells.toArray rfl rfl 68 _ HD5.out.row (Zbj HL.out) (Zbe HL.out) (all_oneCell_toArray (NV.one _)) ?_)
        refine bodyPost_ret (Zbg Tryz.results28 _ _ w.heap.size y' HL.out rfl (setRow_heap _ _ _ _ _ _ HD5.out.row)) rfl ?_
        refine ⟨Below.setRow HD5.out.bel (Nat.le_refl _) _, y', rfl, HNA.out.go fun k hK hk => ?_⟩
        have e : (w5.setRow w.heap.size y'.cells.toArray).heap[k]? = w3.heap[k]? := (setRow_other _ _ _ _ (by have := hK.1; omega)).trans (HB5.out.block k hk)
        exact ⟨e, by have := hK.1; omega, fun o => (World.frozen?_of_block (w := w3) e).trans (hK.2 o)⟩
theorem Znq : ∀ (L : Nat) (b : List Int), b.length ≤ L → DecSaid b := by
  intro L
  induction L using Nat.strongRecOn with
  | _ L ih =>
    intro b hL
    exact Zla b fun _ i h1 _ _ => ih i.length (by omega) i (Nat.le_refl _)
theorem Zdd (b : List Int) : DecSaid b := Znq b.length b (Nat.le_refl _)
theorem Zne (K : Nat → Prop) (x : NV) (n : PN) (w : World) (h : NodeAt K w x n) :
    Calls Tryz.prog 55 #[.agg x.cells.toArray] w fun e w' => e = .returned (.bool (NR n)) ∧ Below w.heap.size w w' := Zox K x n w h fun r _ _ => Zdd r.i
end Go.Proofs.YtchgejomcgoaeaaGreat

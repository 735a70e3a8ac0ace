/- What rightChild answers. -/
import Derived.Test.YtefhepcplempkaaGreatG12
import Derived.Test.YtefhepcplempkaaGreatG03
import Derived.Test.YtefhepcplempkaaGreatG01
set_option linter.unusedVariables false
set_option maxRecDepth 100000
namespace Go.Proofs.YtefhepcplempkaaGreat
open Go.RowKit
set_option maxHeartbeats 2000000 in
theorem Zio (K : Nat -> Prop) (x : NV) (n : PN) (w : World) (h : NodeAt K w x n) (hd : n.c.i.length < 32 -> DecSaid n.c.i) :
  Calls Tryz.prog 112 #[.agg x.cells.toArray] w fun e w' => e = .returned (.bool (rchildP KD n)) /\ Below w.heap.size w w' := by
 have B := Zcp w x h.c.len
 have HB := Hid.mk (below_new w (.cells x.cells.toArray 68))
 obtain ⟨q, hq⟩ : ∃ q, rrefP KD n.c = q := ⟨_, rfl⟩
 have HR := Hid.mk (show ∀ v, Below w.heap.size w v -> Calls Tryz.prog 140 #[.agg x.c.cells.toArray] v fun e w' => e = .returned (.bool q) /\ Below v.heap.size v w' from fun v hv => by
  rw [<- hq]; exact Zd5 K x.c n.c v (h.c.go (Keep.below hv)) hd)
 obtain ⟨kr, hkr⟩ : ∃ kr, KD n.c.i = kr := ⟨_, rfl⟩
 have HK := Hid.mk (show q = true -> ∀ v, Below w.heap.size w v -> Calls Tryz.prog 141 #[.agg x.c.cells.toArray] v fun e w' => e = .returned (.int .i64 kr) /\ Below v.heap.size v w' from fun hqt v hv => by
  rw [<- hkr]; exact Zer K x.c n.c v (h.c.go (Keep.below hv)) (hd (Zi1 (hq.trans hqt))))
 obtain ⟨res, hres⟩ : ∃ res, rchildP KD n = res := ⟨_, rfl⟩
 rw [hres]
 unfold rchildP at hres
 rw [hkr, hq, <- h.k, <- h.c.1] at hres
 have HRES := Hid.mk hres
 have HLX := Hid.mk h.c.len
 clear h hd hkr hres hq
 go_enter Tryz.func112, Tryz.ntmps112
 go_upto_region 1 with fail
 refine gen_w (p := fun v => Code.wp _ _ _ _ v) (q := fun v => NBx w.heap.size v x /\ Below w.heap.size w v) ⟨B, HB.out⟩ ?_
 clear B HB
 rintro v ⟨B, hb⟩
 have HB := Hid.mk hb
 have HX := Hid.mk B
 clear hb B
 go_wp2_with (first | refine Za3 rfl _ rfl w.heap.size 3 rfl x.c HLX.out HX.out.child ?_)
 refine (HR.out v HB.out).mono ?_
 rintro e w1 ⟨rfl, hb1⟩
 have B1 := HX.out.go hb1
 have HB1 := Hid.mk (below_go HB.out hb1)
 have c0 := B1.c0
 have c3 := B1.c3
 have HX1 := Hid.mk B1
 clear hb1 B1 HX HB
 cases q with
 | false =>
  go_wp2_with fail
  go_ret
  refine ⟨congrArg (fun b => Ending.returned (Value.bool b)) ?_, HB1.out⟩
  rw [<- HRES.out, Bool.eq_iff_iff]
  first | (simp; done) | (simp; omega)
 | true =>
  by_cases h2 : x.k = 2
  ·by_cases hc : x.c.k = 2
   ·go_wp2_with fail
    go_ret
    refine ⟨congrArg (fun b => Ending.returned (Value.bool b)) ?_, HB1.out⟩
    rw [<- HRES.out, Bool.eq_iff_iff]
    first | (simp [h2, hc]; done) | (simp [h2, hc]; omega)
   ·have hcq : (x.c.k == 2) = false := by simp [hc]
    go_wp2_with (first | refine Za3 rfl _ rfl w.heap.size 3 rfl x.c HLX.out HX1.out.child ?_)
    refine (HK.out (by trivial) w1 HB1.out).mono ?_
    rintro e w2 ⟨rfl, hb2⟩
    have HB2 := Hid.mk (below_go HB1.out hb2)
    clear hb2
    go_wp2_with fail
    go_ret
    refine ⟨congrArg (fun b => Ending.returned (Value.bool b)) ?_, HB2.out⟩
    rw [<- HRES.out, Bool.eq_iff_iff]
    first | (simp [h2, hc]; done) | (simp [h2, hc]; omega)
  ·go_wp2_with fail
   go_ret
   refine ⟨congrArg (fun b => Ending.returned (Value.bool b)) ?_, HB1.out⟩
   rw [<- HRES.out, Bool.eq_iff_iff]
   first | (simp [h2]; done) | (simp [h2]; omega)
theorem Ze9 : ∀ (l : List PR) (r : PR), ways (l ++ [r]) = ways l + (if r.k ≠ 0 then 1 else 0)
 | [], r => by simp [ways]
 | a :: l, r => by rw [List.cons_append, ways, ways, Ze9 l r]; omega
theorem Zeu : ∀ l : List PR, ways l <= l.length
 | [] => by simp [ways]
 | r :: l => by
  have := Zeu l
  rw [ways, List.length_cons]
  split <;> omega
theorem Zbq {ks : List PR} {j : Nat} {r : PR} (h : ks[j]? = some r) : ks.take (j + 1) = ks.take j ++ [r] := by
 rw [List.take_add_one, h]; rfl
theorem Zi0 (w1 : World) (y : RV) (hl : y.d.length = 32) (C : Array Value) : RBx w1.heap.size ((w1.alloc (.cells C 65)).setRow w1.heap.size y.cells.toArray) y := ⟨setRow_heap _ _ _ _ _ _ (heap_alloc_new w1 _), hl⟩
theorem Zup : (rz.cells.toArray : Array Value).size = 34 := rfl
set_option maxHeartbeats 4000000 in
theorem Zj7 (K : Nat -> Prop) (x : NV) (n : PN) (w : World) (h : NodeAt K w x n) (hd : ∀ r ∈ n.ks, r.i.length < 32 -> DecSaid r.i) :
  Calls Tryz.prog 113 #[.agg x.cells.toArray] w fun e w' => e = .returned (.bool (rkidsP KD n)) /\ Below w.heap.size w w' := by
 have B := Zcp w x h.c.len
 have HB := Hid.mk (below_new w (.cells x.cells.toArray 68))
 have HKS := Hid.mk h.ks
 have hm := h.m
 have HKL := Hid.mk hm.1
 obtain ⟨-, hm2, hm3, hm4, hm5⟩ := hm
 unfold maxLen at hm3
 have HM5 := Hid.mk hm5
 obtain ⟨res, hres⟩ : ∃ res, rkidsP KD n = res := ⟨_, rfl⟩
 rw [hres]
 unfold rkidsP at hres
 rw [<- h.k, <- HKL.out, h.v.l] at hres
 have HRES := Hid.mk hres
 have hvn := h.v.2.1
 have HD := Hid.mk hd
 clear h hd hres hm5
 go_enter Tryz.func113, Tryz.ntmps113
 go_upto_region 1 with fail
 refine gen_w (p := fun v => Code.wp _ _ _ _ v) (q := fun v => NBx w.heap.size v x /\ Below w.heap.size w v) ⟨B, HB.out⟩ ?_
 clear B HB
 rintro v ⟨B, hb⟩
 have HB := Hid.mk hb
 have c0 := B.c0
 have c2 := B.c2
 have c37 := B.c37
 obtain ⟨ka, hka0⟩ : ∃ ka, x.ka = ka := ⟨_, rfl⟩
 rw [hka0] at c37 HKS HM5
 clear hb B hka0
 by_cases h3 : x.k = 3
 ·by_cases h16 : x.kn = 16
  ·obtain ⟨wy, hwy⟩ : ∃ wy : Nat, (if 0 < x.vn then 1 else 0) = wy := ⟨_, rfl⟩
   have HWY := Hid.mk hwy
   rw [h16] at HKL c37 hm2 hm4
   by_cases hv : 0 < x.vn
   ·have e1 : wy = 1 := by rw [<- hwy, if_pos hv]
    have hvi : (x.vn : Int) > 0 := by omega
    subst e1
    clear hwy
    go_wp2_with fail
    go_loopw [3, 26] (fun s3 s26 v => ∃ j : Nat, j <= 16 /\ s26 = .int .i64 j /\ s3 = .int .i64 ((1 + ways (n.ks.take j) : Nat) : Int) /\ (∀ r ∈ n.ks.take j, rrefP KD r = true) /\ Below w.heap.size w v) (fun _ s26 _ => 16 - (intOf s26).toNat)
    case atStart => exact ⟨0, by omega, rfl, rfl, fun r hr => by simp at hr, HB.out⟩
    case round =>
     obtain ⟨j, hj, rfl, rfl, hall, hbv⟩ := hrel
     have HALL := Hid.mk hall
     have HBV := Hid.mk hbv
     clear hall hbv
     by_cases hlt : j < 16
     ·have hji : (j : Int) < 16 := by omega
      obtain ⟨r, hr⟩ : ∃ r, n.ks[j]? = some r := ⟨_, List.getElem?_eq_getElem (by have := HKL.out; omega)⟩
      obtain ⟨g, off, y, hka, _, hrg, hy⟩ := HKS.out j r hr
      have HRG := Hid.mk (Zbr hrg (fun hl => HBV.out.block g hl))
      have HYL := Hid.mk hy.len
      have HI := Hid.mk (show (Tryz.prog.info? 65).map (·.size) = some y.cells.toArray.size from by rw [Zb9, List.size_toArray, RV.len HYL.out])
      have HS := Hid.mk (show (rz.cells.toArray : Array Value).size = y.cells.toArray.size from by rw [Zup, List.size_toArray, RV.len HYL.out])
      have HO := Hid.mk (all_oneCell_toArray y.one)
      obtain ⟨q, hq⟩ : ∃ q, rrefP KD r = q := ⟨_, rfl⟩
      have HRR := Hid.mk (show ∀ u, Below w.heap.size w u -> Calls Tryz.prog 140 #[.agg y.cells.toArray] u fun e w' => e = .returned (.bool q) /\ Below u.heap.size u w' from fun u hu => by
       rw [<- hq]; exact Zd5 K y r u (hy.go (Keep.below hu)) (HD.out r (List.mem_of_getElem? hr)))
      have HQ := Hid.mk hq
      have HR := Hid.mk hr
      have HYK := Hid.mk hy.1
      have hwl : ways (n.ks.take j) <= j := by have := Zeu (n.ks.take j); rw [List.length_take] at this; omega
      have HW := Hid.mk (show ways (n.ks.take (j + 1)) = ways (n.ks.take j) + (if y.k ≠ 0 then 1 else 0) from by rw [Zbq hr, Ze9, hy.1])
      clear hrg hy hq hr
      subst hka
      go_upto_region 11 with (first | refine Za3 rfl _ rfl g (off + j * 34) rfl y HYL.out HRG.out ?_ | refine wpList_store_row rfl 65 _ _ rfl _ y.cells.toArray rfl rfl 65 _ (heap_alloc_new _ _) HI.out HS.out HO.out ?_)
      refine gen_w (p := fun v => Code.wp _ _ _ _ v) (q := fun v => RBx wr.heap.size v y /\ Below w.heap.size w v) ⟨Zi0 _ _ HYL.out _, Below.setRow (HBV.out.alloc HBV.out.size _) HBV.out.size _⟩ ?_
      rintro v2 ⟨B2, hb2⟩
      have HX2 := Hid.mk B2
      have HB2 := Hid.mk hb2
      clear B2 hb2
      go_wp2_with (first | refine Za3 rfl _ rfl wr.heap.size 0 rfl y HYL.out HX2.out.all ?_)
      refine (HRR.out v2 HB2.out).mono ?_
      rintro e w3 ⟨rfl, hb3⟩
      have B3 := HX2.out.go hb3
      have c03 := B3.c0
      have HB3 := Hid.mk (below_go HB2.out hb3)
      clear hb3 B3
      cases q with
      | false =>
       go_wp2_with fail
       go_ret
       refine ⟨congrArg (fun b => Ending.returned (Value.bool b)) ?_, HB3.out⟩
       rw [<- HRES.out, h3, h16, if_neg (by decide), if_neg (by decide)]
       have hno : n.ks.all (rrefP KD) = false := by
        rw [List.all_eq_false]
        exact ⟨r, List.mem_of_getElem? HR.out, by rw [HQ.out]; simp⟩
       rw [hno]
       rfl
      | true =>
       have HALL2 := Hid.mk (show ∀ r ∈ n.ks.take (j + 1), rrefP KD r = true from fun r' hr' => by
        rw [Zbq HR.out] at hr'
        rcases List.mem_append.1 hr' with h | h
        ·exact HALL.out r' h
        ·simp only [List.mem_cons, List.not_mem_nil, or_false] at h
         rw [h]; exact HQ.out)
       by_cases hk0 : y.k = 0
       ·have hw2 := HW.out
        rw [if_neg (by simp [hk0])] at hw2
        have HW2 := Hid.mk hw2
        clear hw2
        go_wp2_with fail
        go_roundw
        case rel => exact ⟨j + 1, by omega, by simp, by rw [HW2.out]; simp, HALL2.out, HB3.out⟩
        case measure => simp [intOf]; omega
       ·have hw2 := HW.out
        rw [if_pos hk0] at hw2
        have HW2 := Hid.mk hw2
        clear hw2
        go_wp2_with fail
        go_roundw
        case rel => exact ⟨j + 1, by omega, by simp, by rw [HW2.out]; first | (simp; done) | (simp; omega), HALL2.out, HB3.out⟩
        case measure => simp [intOf]; omega
     ·have hji : ¬ (j : Int) < 16 := by omega
      have e16 : n.ks.take j = n.ks := List.take_of_length_le (by have := HKL.out; omega)
      rw [e16] at HALL ⊢
      have hyes : n.ks.all (rrefP KD) = true := List.all_eq_true.2 HALL.out
      have HYES := Hid.mk hyes
      have hwl : ways n.ks <= 16 := by have := Zeu n.ks; have := HKL.out; omega
      clear hyes e16
      go_wp2_with fail
      go_ret
      refine ⟨congrArg (fun b => Ending.returned (Value.bool b)) ?_, HBV.out⟩
      rw [<- HRES.out, h3, h16, if_neg (by decide), if_neg (by decide), HYES.out, Bool.true_and, Bool.eq_iff_iff, HWY.out]
      simp
      try omega
   ·have e1 : wy = 0 := by rw [<- hwy, if_neg hv]
    have hvi : ¬ (x.vn : Int) > 0 := by omega
    subst e1
    clear hwy
    go_wp2_with fail
    go_loopw [3, 26] (fun s3 s26 v => ∃ j : Nat, j <= 16 /\ s26 = .int .i64 j /\ s3 = .int .i64 ((0 + ways (n.ks.take j) : Nat) : Int) /\ (∀ r ∈ n.ks.take j, rrefP KD r = true) /\ Below w.heap.size w v) (fun _ s26 _ => 16 - (intOf s26).toNat)
    case atStart => exact ⟨0, by omega, rfl, rfl, fun r hr => by simp at hr, HB.out⟩
    case round =>
     obtain ⟨j, hj, rfl, rfl, hall, hbv⟩ := hrel
     have HALL := Hid.mk hall
     have HBV := Hid.mk hbv
     clear hall hbv
     by_cases hlt : j < 16
     ·have hji : (j : Int) < 16 := by omega
      obtain ⟨r, hr⟩ : ∃ r, n.ks[j]? = some r := ⟨_, List.getElem?_eq_getElem (by have := HKL.out; omega)⟩
      obtain ⟨g, off, y, hka, _, hrg, hy⟩ := HKS.out j r hr
      have HRG := Hid.mk (Zbr hrg (fun hl => HBV.out.block g hl))
      have HYL := Hid.mk hy.len
      have HI := Hid.mk (show (Tryz.prog.info? 65).map (·.size) = some y.cells.toArray.size from by rw [Zb9, List.size_toArray, RV.len HYL.out])
      have HS := Hid.mk (show (rz.cells.toArray : Array Value).size = y.cells.toArray.size from by rw [Zup, List.size_toArray, RV.len HYL.out])
      have HO := Hid.mk (all_oneCell_toArray y.one)
      obtain ⟨q, hq⟩ : ∃ q, rrefP KD r = q := ⟨_, rfl⟩
      have HRR := Hid.mk (show ∀ u, Below w.heap.size w u -> Calls Tryz.prog 140 #[.agg y.cells.toArray] u fun e w' => e = .returned (.bool q) /\ Below u.heap.size u w' from fun u hu => by
       rw [<- hq]; exact Zd5 K y r u (hy.go (Keep.below hu)) (HD.out r (List.mem_of_getElem? hr)))
      have HQ := Hid.mk hq
      have HR := Hid.mk hr
      have HYK := Hid.mk hy.1
      have hwl : ways (n.ks.take j) <= j := by have := Zeu (n.ks.take j); rw [List.length_take] at this; omega
      have HW := Hid.mk (show ways (n.ks.take (j + 1)) = ways (n.ks.take j) + (if y.k ≠ 0 then 1 else 0) from by rw [Zbq hr, Ze9, hy.1])
      clear hrg hy hq hr
      subst hka
      go_upto_region 11 with (first | refine Za3 rfl _ rfl g (off + j * 34) rfl y HYL.out HRG.out ?_ | refine wpList_store_row rfl 65 _ _ rfl _ y.cells.toArray rfl rfl 65 _ (heap_alloc_new _ _) HI.out HS.out HO.out ?_)
      refine gen_w (p := fun v => Code.wp _ _ _ _ v) (q := fun v => RBx wr.heap.size v y /\ Below w.heap.size w v) ⟨Zi0 _ _ HYL.out _, Below.setRow (HBV.out.alloc HBV.out.size _) HBV.out.size _⟩ ?_
      rintro v2 ⟨B2, hb2⟩
      have HX2 := Hid.mk B2
      have HB2 := Hid.mk hb2
      clear B2 hb2
      go_wp2_with (first | refine Za3 rfl _ rfl wr.heap.size 0 rfl y HYL.out HX2.out.all ?_)
      refine (HRR.out v2 HB2.out).mono ?_
      rintro e w3 ⟨rfl, hb3⟩
      have B3 := HX2.out.go hb3
      have c03 := B3.c0
      have HB3 := Hid.mk (below_go HB2.out hb3)
      clear hb3 B3
      cases q with
      | false =>
       go_wp2_with fail
       go_ret
       refine ⟨congrArg (fun b => Ending.returned (Value.bool b)) ?_, HB3.out⟩
       rw [<- HRES.out, h3, h16, if_neg (by decide), if_neg (by decide)]
       have hno : n.ks.all (rrefP KD) = false := by
        rw [List.all_eq_false]
        exact ⟨r, List.mem_of_getElem? HR.out, by rw [HQ.out]; simp⟩
       rw [hno]
       rfl
      | true =>
       have HALL2 := Hid.mk (show ∀ r ∈ n.ks.take (j + 1), rrefP KD r = true from fun r' hr' => by
        rw [Zbq HR.out] at hr'
        rcases List.mem_append.1 hr' with h | h
        ·exact HALL.out r' h
        ·simp only [List.mem_cons, List.not_mem_nil, or_false] at h
         rw [h]; exact HQ.out)
       by_cases hk0 : y.k = 0
       ·have hw2 := HW.out
        rw [if_neg (by simp [hk0])] at hw2
        have HW2 := Hid.mk hw2
        clear hw2
        go_wp2_with fail
        go_roundw
        case rel => exact ⟨j + 1, by omega, by simp, by rw [HW2.out]; simp, HALL2.out, HB3.out⟩
        case measure => simp [intOf]; omega
       ·have hw2 := HW.out
        rw [if_pos hk0] at hw2
        have HW2 := Hid.mk hw2
        clear hw2
        go_wp2_with fail
        go_roundw
        case rel => exact ⟨j + 1, by omega, by simp, by rw [HW2.out]; first | (simp; done) | (simp; omega), HALL2.out, HB3.out⟩
        case measure => simp [intOf]; omega
     ·have hji : ¬ (j : Int) < 16 := by omega
      have e16 : n.ks.take j = n.ks := List.take_of_length_le (by have := HKL.out; omega)
      rw [e16] at HALL ⊢
      have hyes : n.ks.all (rrefP KD) = true := List.all_eq_true.2 HALL.out
      have HYES := Hid.mk hyes
      have hwl : ways n.ks <= 16 := by have := Zeu n.ks; have := HKL.out; omega
      clear hyes e16
      go_wp2_with fail
      go_ret
      refine ⟨congrArg (fun b => Ending.returned (Value.bool b)) ?_, HBV.out⟩
      rw [<- HRES.out, h3, h16, if_neg (by decide), if_neg (by decide), HYES.out, Bool.true_and, Bool.eq_iff_iff, HWY.out]
      simp
      try omega
  ·go_wp2_with fail
   go_ret
   refine ⟨congrArg (fun b => Ending.returned (Value.bool b)) ?_, HB.out⟩
   rw [<- HRES.out, Bool.eq_iff_iff]
   first | (simp [h3, h16]; done) | (simp [h3, h16]; omega)
 ·go_wp2_with fail
  go_ret
  refine ⟨congrArg (fun b => Ending.returned (Value.bool b)) ?_, HB.out⟩
  rw [<- HRES.out, Bool.eq_iff_iff]
  first | (simp [h3]; done) | (simp [h3]; omega)
set_option maxHeartbeats 4000000 in
theorem Zqj (K : Nat -> Prop) (x : NV) (n : PN) (w : World) (h : NodeAt K w x n) (hd : ∀ r, (r = n.c \/ r ∈ n.ks) -> r.i.length < 32 -> DecSaid r.i) :
  Calls Tryz.prog 79 #[.agg x.cells.toArray] w fun e w' => e = .returned (.bool (NR n)) /\ Below w.heap.size w w' := by
 have B := Zcp w x h.c.len
 have HB := Hid.mk (below_new w (.cells x.cells.toArray 68))
 obtain ⟨q0, hq0⟩ : ∃ q, knownP n = q := ⟨_, rfl⟩
 obtain ⟨q1, hq1⟩ : ∃ q, rpathP n = q := ⟨_, rfl⟩
 obtain ⟨q2, hq2⟩ : ∃ q, rvalueP n = q := ⟨_, rfl⟩
 obtain ⟨q3, hq3⟩ : ∃ q, rchildP KD n = q := ⟨_, rfl⟩
 obtain ⟨q4, hq4⟩ : ∃ q, rkidsP KD n = q := ⟨_, rfl⟩
 have H1 := Hid.mk (show ∀ v, Below w.heap.size w v -> Calls Tryz.prog 110 #[.agg x.cells.toArray] v fun e w' => e = .returned (.bool q1) /\ Below v.heap.size v w' from fun v hv => by
  rw [<- hq1]; exact Zj6 K x n v (h.go (Keep.below hv)))
 have H2 := Hid.mk (show ∀ v, Below w.heap.size w v -> Calls Tryz.prog 111 #[.agg x.cells.toArray] v fun e w' => e = .returned (.bool q2) /\ Below v.heap.size v w' from fun v hv => by
  rw [<- hq2]; exact Zin K x n v (h.go (Keep.below hv)))
 have H3 := Hid.mk (show ∀ v, Below w.heap.size w v -> Calls Tryz.prog 112 #[.agg x.cells.toArray] v fun e w' => e = .returned (.bool q3) /\ Below v.heap.size v w' from fun v hv => by
  rw [<- hq3]; exact Zio K x n v (h.go (Keep.below hv)) (hd _ (.inl rfl)))
 have H4 := Hid.mk (show ∀ v, Below w.heap.size w v -> Calls Tryz.prog 113 #[.agg x.cells.toArray] v fun e w' => e = .returned (.bool q4) /\ Below v.heap.size v w' from fun v hv => by
  rw [<- hq4]; exact Zj7 K x n v (h.go (Keep.below hv)) (fun r hr => hd r (.inr hr)))
 have HNR := Hid.mk (show NR n = (q0 && q1 && q2 && q3 && q4) from by unfold NR nright; rw [hq0, hq1, hq2, hq3, hq4])
 rw [HNR.out]
 have HQ0 := Hid.mk (show (decide (x.k = 1) || decide (x.k = 2) || decide (x.k = 3)) = q0 from by rw [<- hq0, h.k]; rfl)
 clear hq0 hq1 hq2 hq3 hq4 h hd HNR
 go_enter Tryz.func79, Tryz.ntmps79
 go_upto_region 1 with fail
 refine gen_w (p := fun v => Code.wp _ _ _ _ v) (q := fun v => NBx w.heap.size v x /\ Below w.heap.size w v) ⟨B, HB.out⟩ ?_
 clear B HB
 rintro v ⟨B, hb⟩
 have HB := Hid.mk hb
 have HX := Hid.mk B
 have c0 := B.c0
 clear hb B
 go_cut [3] from 3 to 16 (fun s3 u => s3 = .bool q0 /\ u = v)
 case first =>
  by_cases k1 : x.k = 1
  ·have hq := HQ0.out
   simp [k1] at hq
   subst hq
   go_wp2_with fail
   go_meet
   exact ⟨rfl, rfl⟩
  ·by_cases k2 : x.k = 2
   ·have hq := HQ0.out
    simp [k2] at hq
    subst hq
    go_wp2_with fail
    go_meet
    exact ⟨rfl, rfl⟩
   ·by_cases k3 : x.k = 3
    ·have hq := HQ0.out
     simp [k3] at hq
     subst hq
     go_wp2_with fail
     go_meet
     exact ⟨rfl, rfl⟩
    ·have hq := HQ0.out
     simp [k1, k2, k3] at hq
     subst hq
     have e1 : (x.k == 1) = false := by simp [k1]
     have e2 : (x.k == 2) = false := by simp [k2]
     have e3 : (x.k == 3) = false := by simp [k3]
     go_wp2_with fail
     go_meet
     exact ⟨rfl, rfl⟩
 case rest =>
  obtain ⟨rfl, rfl⟩ := hcut
  cases q0 with
  | false =>
   go_wp2_with fail
   go_ret
   exact ⟨rfl, HB.out⟩
  | true =>
   go_wp2_with (first | refine Za8 rfl _ rfl w.heap.size rfl x HX.out ?_)
   refine (H1.out _ HB.out).mono ?_
   rintro e w1 ⟨rfl, hb1⟩
   have HX1 := Hid.mk (HX.out.go hb1)
   have HB1 := Hid.mk (below_go HB.out hb1)
   clear hb1
   cases q1 with
   | false =>
    go_wp2_with fail
    go_ret
    exact ⟨rfl, HB1.out⟩
   | true =>
    go_wp2_with (first | refine Za8 rfl _ rfl w.heap.size rfl x HX1.out ?_)
    refine (H2.out w1 HB1.out).mono ?_
    rintro e w2 ⟨rfl, hb2⟩
    have HX2 := Hid.mk (HX1.out.go hb2)
    have HB2 := Hid.mk (below_go HB1.out hb2)
    clear hb2
    cases q2 with
    | false =>
     go_wp2_with fail
     go_ret
     exact ⟨rfl, HB2.out⟩
    | true =>
     go_wp2_with (first | refine Za8 rfl _ rfl w.heap.size rfl x HX2.out ?_)
     refine (H3.out w2 HB2.out).mono ?_
     rintro e w3 ⟨rfl, hb3⟩
     have HX3 := Hid.mk (HX2.out.go hb3)
     have HB3 := Hid.mk (below_go HB2.out hb3)
     clear hb3
     cases q3 with
     | false =>
      go_wp2_with fail
      go_ret
      exact ⟨rfl, HB3.out⟩
     | true =>
      go_wp2_with (first | refine Za8 rfl _ rfl w.heap.size rfl x HX3.out ?_)
      refine (H4.out w3 HB3.out).mono ?_
      rintro e w4 ⟨rfl, hb4⟩
      have HX4 := Hid.mk (HX3.out.go hb4)
      have HB4 := Hid.mk (below_go HB3.out hb4)
      clear hb4
      go_wp2_with fail
      go_ret
      exact ⟨rfl, HB4.out⟩
theorem Zkx {b : List Int} {t : T} (hb : isB b) (h : decP b = .ok t) : ∀ u ∈ t.its, u.bs.length <= 16777216 := fun u hu => by
 obtain ⟨h1, h2, h3⟩ := Ze5 hb h
 have hbo := (Zig h2).2.1
 have l1 := Zc5 u
 have l2 := Zc4 hu
 have l3 : (bodyOf t).length = t.bs.length + (encs t.its).length := by unfold bodyOf; rw [List.length_append]
 have l4 : (bodyOf u).length = u.bs.length + (encs u.its).length := by unfold bodyOf; rw [List.length_append]
 omega
structure Dd (w v : World) : Prop where
 row : v.heap[w.heap.size]? = some (.cells nz.cells.toArray 68)
 bel : Below w.heap.size w v
 sz : w.heap.size + 1 <= v.heap.size
theorem Dd.go {w v v' : World} (h : Dd w v) (hb : Below v.heap.size v v') : Dd w v' := ⟨Below.row hb h.row, below_go h.bel hb, Nat.le_trans h.sz hb.size⟩
theorem Zu9 (w : World) : Dd w (w.alloc (.cells nz.cells.toArray 68)) := ⟨heap_alloc_new _ _, below_new _ _, by simp⟩
set_option maxHeartbeats 8000000 in
theorem Zmy (b : List Int) (hr : isB b -> ∀ i, i.length < b.length -> i.length < 32 -> isB i -> DecSaid i) : DecSaid b := by
 intro a n c w hag hn
 have hbB : isB b := hag.b
 have HREC := Hid.mk (hr hbB)
 have HAG := Hid.mk hag
 have HBB := Hid.mk hbB
 obtain ⟨res, hres⟩ : ∃ res, ND b = res := ⟨_, rfl⟩
 rw [hres]
 rw [Zue hbB] at hres
 have HRES := Hid.mk hres
 have HDD0 := Hid.mk (Zu9 w)
 clear hag hr hres hbB
 go_enter Tryz.func94, Tryz.ntmps94
 go_upto_region 1 with fail
 refine gen_w (p := fun v => Code.wp _ _ _ _ v) (q := fun v => Dd w v) HDD0.out ?_
 clear HDD0
 intro v D0
 have HD0 := Hid.mk D0
 have HCD := Hid.mk (Zjp a n c b v (HAG.out.at D0.bel) hn)
 clear D0
 go_wp2_with fail
 refine HCD.out.mono ?_
 intro e w1 hp
 obtain ⟨hb1, hp⟩ := hp
 have HD1 := Hid.mk (HD0.out.go hb1)
 have HV0 := Hid.mk HD0.out.sz
 cases hq : decP b with
 | bad er =>
  rw [hq] at hp
  have hr := HRES.out
  rw [hq] at hr
  have hr : none = res := hr
  subst hr
  obtain ⟨rfl, her⟩ := hp
  have hee : ((er : Int) != 0) = true := by rw [bne_iff_ne]; omega
  clear hb1 hq her
  go_upto_region 2 with fail
  refine gen_w (p := fun v => Code.wp _ _ _ _ v) (q := fun v => Dd w v) (HD1.out.go (below_new w1 _)) ?_
  intro v2 D2
  have HD2 := Hid.mk D2
  clear D2
  go_wp2_with (first | refine wpList_store_row rfl 68 _ _ rfl _ nz.cells.toArray rfl rfl 68 _ HD2.out.row (Zbb rfl) (Za5 rfl) (all_oneCell_toArray (NV.one _)) ?_)
  refine bodyPost_ret (Zau Tryz.results94 _ _ w.heap.size nz rfl rfl (setRow_heap _ _ _ _ _ _ HD2.out.row)) rfl ?_
  exact ⟨Below.setRow HD2.out.bel (Nat.le_refl _) _, rfl⟩
 | ok t =>
  rw [hq] at hp
  have hr := HRES.out
  rw [hq] at hr
  obtain ⟨y, rfl, hy⟩ := hp
  have HLY := Hid.mk (show LiesP (fun b => w.heap.size + 1 <= b) w1 t y from Zap (fun b hb hlt => ⟨rfl, by have := HV0.out; omega⟩) _ _ hy)
  have hr : (match nodeOfP t with
   | none => none
   | some n => if NR n = true then some n else none) = res := hr
  have HR := Hid.mk hr
  have HSM := Hid.mk (Zkx HBB.out hq)
  have HSB := Hid.mk (fun n hn => Zkd (n := n) HBB.out hq hn)
  clear hb1 hq hy hr HRES
  go_upto_region 2 with fail
  refine gen_w (p := fun v => Code.wp _ _ _ _ v) (q := fun v => Dd w v /\ B1 w1.heap.size v y /\ LiesP (fun b => w.heap.size + 1 <= b) v t y) ⟨HD1.out.go (below_new w1 _), Zcq w1 y, Zap (fun b hb hlt => ⟨heap_alloc_old _ _ hlt, hb⟩) _ _ HLY.out⟩ ?_
  rintro v2 ⟨D2, B2, L2⟩
  have c0 := B2.c0
  have c1 := B2.c1
  have c2 := B2.c2
  have HD2 := Hid.mk D2
  have HNO := Hid.mk (Zo5 (w.heap.size + 1) t y v2 L2 D2.sz HSM.out)
  clear D2 B2 L2
  go_wp2_with fail
  refine HNO.out.mono ?_
  intro e w3 hp
  obtain ⟨hb3, hp⟩ := hp
  have HD3 := Hid.mk (HD2.out.go hb3)
  have hr := HR.out
  cases hq : nodeOfP t with
  | none =>
   rw [hq] at hp hr
   have hr : none = res := hr
   subst hr
   obtain ⟨y', hl', rfl⟩ := hp
   have HL := Hid.mk hl'
   clear hb3 hq hl' c0 c1 c2
   go_upto_region 5 with (first | refine wpList_store_row rfl 68 _ _ rfl _ y'.cells.toArray rfl rfl 68 _ (heap_alloc_new _ _) (Zbb HL.out) (Za5 HL.out) (all_oneCell_toArray (NV.one _)) ?_)
   refine gen_w (p := fun v => Code.wp _ _ _ _ v) (q := fun v => Dd w v) (HD3.out.go (Below.setRow (below_new w3 _) (Nat.le_refl _) _)) ?_
   intro v4 D4
   have HD4 := Hid.mk D4
   clear D4
   go_wp2_with (first | refine wpList_store_row rfl 68 _ _ rfl _ nz.cells.toArray rfl rfl 68 _ HD4.out.row (Zbb rfl) (Za5 rfl) (all_oneCell_toArray (NV.one _)) ?_)
   refine bodyPost_ret (Zau Tryz.results94 _ _ w.heap.size nz rfl rfl (setRow_heap _ _ _ _ _ _ HD4.out.row)) rfl ?_
   exact ⟨Below.setRow HD4.out.bel (Nat.le_refl _) _, rfl⟩
  | some nn =>
   rw [hq] at hp hr
   obtain ⟨y', rfl, hna⟩ := hp
   have hr : (if NR nn = true then some nn else none) = res := hr
   have HL := Hid.mk hna.c.len
   have HNA := Hid.mk hna
   have HRI := Hid.mk (show ∀ u, NodeAt (fun _ => True) u y' nn -> Calls Tryz.prog 79 #[.agg y'.cells.toArray] u fun e w' => e = .returned (.bool (NR nn)) /\ Below u.heap.size u w' from fun u hu => Zqj _ y' nn u hu (fun r hrr h32 => by
    obtain ⟨s1, s2⟩ := HSB.out nn hq r hrr
    exact HREC.out r.i s1 h32 s2))
   obtain ⟨q, hqq⟩ : ∃ q, NR nn = q := ⟨_, rfl⟩
   rw [hqq] at hr HRI
   have HR2 := Hid.mk hr
   clear hb3 hq hna c0 c1 c2 hr hqq
   go_upto_region 5 with (first | refine wpList_store_row rfl 68 _ _ rfl _ y'.cells.toArray rfl rfl 68 _ (heap_alloc_new _ _) (Zbb HL.out) (Za5 HL.out) (all_oneCell_toArray (NV.one _)) ?_)
   refine gen_w (p := fun v => Code.wp _ _ _ _ v) (q := fun v => Dd w v /\ NBx w3.heap.size v y' /\ Below w3.heap.size w3 v) ⟨HD3.out.go (Below.setRow (below_new w3 _) (Nat.le_refl _) _), ⟨setRow_heap _ _ _ _ _ _ (heap_alloc_new _ _), HL.out⟩, Below.setRow (below_new w3 _) (Nat.le_refl _) _⟩ ?_
   rintro v4 ⟨D4, N4, b4⟩
   have HD4 := Hid.mk D4
   have HN4 := Hid.mk N4
   have HB4 := Hid.mk b4
   clear D4 N4 b4
   go_wp2_with (first | refine Za8 rfl _ rfl w3.heap.size rfl y' HN4.out ?_)
   refine (HRI.out v4 (HNA.out.go (Keep.any HB4.out))).mono ?_
   rintro e w5 ⟨rfl, hb5⟩
   have HD5 := Hid.mk (HD4.out.go hb5)
   have HN5 := Hid.mk (HN4.out.go hb5)
   have HB5 := Hid.mk (below_go HB4.out hb5)
   clear hb5
   have hr := HR2.out
   cases q with
   | false =>
    rw [if_neg (by simp)] at hr
    subst hr
    go_wp2_with (first | refine wpList_store_row rfl 68 _ _ rfl _ nz.cells.toArray rfl rfl 68 _ HD5.out.row (Zbb rfl) (Za5 rfl) (all_oneCell_toArray (NV.one _)) ?_)
    refine bodyPost_ret (Zau Tryz.results94 _ _ w.heap.size nz rfl rfl (setRow_heap _ _ _ _ _ _ HD5.out.row)) rfl ?_
    exact ⟨Below.setRow HD5.out.bel (Nat.le_refl _) _, rfl⟩
   | true =>
    rw [if_pos rfl] at hr
    subst hr
    go_wp2_with (first | refine Za8 rfl _ rfl w3.heap.size rfl y' HN5.out ?_ | refine wpList_store_row rfl 68 _ _ rfl _ y'.cells.toArray rfl rfl 68 _ HD5.out.row (Zbb HL.out) (Za5 HL.out) (all_oneCell_toArray (NV.one _)) ?_)
    refine bodyPost_ret (Zau Tryz.results94 _ _ w.heap.size y' HL.out rfl (setRow_heap _ _ _ _ _ _ HD5.out.row)) rfl ?_
    refine ⟨Below.setRow HD5.out.bel (Nat.le_refl _) _, y', rfl, HNA.out.go fun k hK hk => ?_⟩
    have e : (w5.setRow w.heap.size y'.cells.toArray).heap[k]? = w3.heap[k]? := (setRow_other _ _ _ _ (by have := hK.1; omega)).trans (HB5.out.block k hk)
    exact ⟨e, by have := hK.1; omega, fun o => (World.frozen?_of_block (w := w3) e).trans (hK.2 o)⟩
theorem Zpj : ∀ (L : Nat) (b : List Int), b.length <= L -> DecSaid b := by
 intro L
 induction L using Nat.strongRecOn with
 | _ L ih =>
  intro b hL
  exact Zmy b fun _ i h1 _ _ => ih i.length (by omega) i (Nat.le_refl _)
theorem Zh3 (b : List Int) : DecSaid b := Zpj b.length b (Nat.le_refl _)
theorem Zo4 (K : Nat -> Prop) (x : NV) (n : PN) (w : World) (h : NodeAt K w x n) :
  Calls Tryz.prog 79 #[.agg x.cells.toArray] w fun e w' => e = .returned (.bool (NR n)) /\ Below w.heap.size w w' := Zqj K x n w h fun r _ _ => Zh3 r.i
theorem Zf3 {w w' : World} {v u r : Value} {t1 t2 : TypeId} {ρ : Operand -> Value} {o : Oper} (hr : ∀ ty, (Builtin.append_ #[t1, t2] ty #[v, u]).run Tryz.prog w = .ok r w') (x y : Operand) (ho : o.op = .call { callee := .builtin .append, args := #[x, y], argTypes := #[t1, t2] }) (hx : ρ x = v) (hy : ρ y = u) : (execOp ρ o).run Tryz.prog w = .ok (.value r) w' := by
 unfold execOp
 simp only [ho, resolve, invoke, builtin, Sem.run_bind, Sem.run_pure, Result.andThen_ok, List.map_toArray, List.map_cons, List.map_nil, hx, hy, hr]
theorem Ziu (n : Nat) : (Builtin.zeroCells #[Value.int .u8 0] n).size = n := by simp [Builtin.zeroCells]
theorem Zpc (w : World) (k : Nat) (h0 : 0 < k) (hk : k <= 1000000) : ∃ cap w9, (∀ ty, (Builtin.append_ #[23, 3] ty #[.slice none 0 0, .int .i64 ((k : Nat) : Int)]).run Tryz.prog w = .ok (.slice (some ⟨w.heap.size, 0, none⟩) k cap) w9) /\ OwnB w9 w.heap.size (.slice (some ⟨w.heap.size, 0, none⟩) 0 cap) [] /\ Bl w w9 := by
 obtain ⟨i, hi, hz, hsz, hby⟩ := info5
 have hr := fun ty => Lib.run_append_nil_zeros (P := Tryz.prog) w 23 3 ty 5 i (.int .u8 0) .i64 .i64 Tryz.underlying23 Tryz.underlying3 hi hz k h0 (by omega) (by omega) (by rw [hby]; omega)
 refine ⟨_, _, hr, ⟨rfl, .inr ⟨w.heap.size, _, _, rfl, Nat.le_refl _, heap_alloc_new _ _, Nat.zero_le _, grownCap_le_maxLen _ _ _ _ (by unfold maxLen; omega), ?_, rfl⟩⟩, ?_⟩
 ·rw [Array.size_append, show (Value.int IntKind.u8 0).cells = #[.int .u8 0] from rfl, Ziu, Ziu]
  have := grownCap_ge w k 0 5
  omega
 ·exact (Below.refl _ _).drew.alloc (Nat.le_refl _) _
theorem Zwa {w : World} {g n cap : Nat} {ρ : Operand -> Value} {o : Oper} (x y : Operand) (ho : o.op = .slice 23 x none (some y) none) (hx : ρ x = .slice (some ⟨g, 0, none⟩) n cap) (hy : ρ y = .int .i64 0) :
  (execOp ρ o).run Tryz.prog w = .ok (.value (.slice (some ⟨g, 0, none⟩) 0 cap)) w := by
 unfold execOp
 rw [ho]
 simp [hx, hy, Instr.sliceAt, run_underlying Tryz.underlying23, Instr.slice, Instr.sliceBounds, Instr.sliceBound, asIntOf, Zaz, Result.andThen]
theorem Sk.old {K : Nat -> Prop} {w : World} {a : Option Addr} {n c : Nat} {bs : List Int} (h : Sk K w a n c bs) {x : Addr} (hx : a = some x) (hn : 0 < n) : x.block < w.heap.size := by
 rcases h.ag.i with ⟨h1, h2⟩ | ⟨gb, off, h1, h2, h3, h4, h5, h7⟩
 ·omega
 ·rw [hx] at h1
  cases h1
  have := block_lt_of_cell (h7 0 (by omega))
  exact this
theorem Sk.under {K : Nat -> Prop} {w w' : World} {a : Option Addr} {n c B : Nat} {bs : List Int} (h : Sk K w a n c bs) (hx : ∀ x, a = some x -> 0 < n -> x.block < B) (hb : Below B w w') : Sk K w' a n c bs := by
 refine ⟨⟨?_, h.ag.nil, h.ag.l, h.ag.b⟩, h.k⟩
 rcases h.ag.i with h1 | ⟨gb, off, h1, h2, h3, h4, h5, h7⟩
 ·exact .inl h1
 ·exact .inr ⟨gb, off, h1, h2, h3, h4, h5, fun j hj => (hb.cell (p := ⟨gb, off + j, none⟩) (show gb < B from hx ⟨gb, off, none⟩ h1 h3)).trans (h7 j hj)⟩
theorem Rw.under {g B : Nat} {w w' : World} {cells : Array Value} {T : TypeId} (h : Rw g w cells T) (hg : g < B) (hb : Below B w w') : Rw g w' cells T := (hb.block g hg).trans h
set_option maxHeartbeats 1000000 in
theorem Zty {w : World} (k : Nat) (hk : k <= 1000000) :
  Calls Tryz.prog 185 #[.slice none 0 0, .int .i64 ((k : Nat) : Int)] w fun e w' => ∃ u, e = .returned u /\ OwnB w' w.heap.size u [] /\ Bl w w' := by
 have hB := Bl.refl w
 refine Zat Tryz.func185 rfl 27 rfl ?_
 show CW _ _ _ _ _ _ _ [(0, .slice none 0 0), (1, .int .i64 ((k : Nat) : Int))] _
 refine Zac <| Zaa <| rp 4 (.slice none 0 0) <| Zad <| Zab <| Zac <| Zac <| Zaa <| rp 5 (.int .i64 ((k : Nat) : Int)) <| rv 6 (.bool false) (fun _ => Zaq (v := .bool (decide (((k : Nat) : Int) < (0 : Int)))) (by kernel_rfl) (congrArg Value.bool (decide_eq_false (by omega)))) <| Zad <| Zab ?_
 refine Zag (fun _ => by kernel_rfl) <| Zar <| Zab <| Zac <| Zac <| Zaa <| rp 8 (.int .i64 ((k : Nat) : Int)) <| rp 9 (.slice none 0 0) <| rp 10 (.int .i64 0) <| rp 11 (.slice none 0 0) <| rp 12 (.int .i64 0) <| rp 13 (.int .i64 0) ?_
 refine rv 14 (.int .i64 ((k : Nat) : Int)) (fun _ => Zaq (v := .int .i64 (IntKind.i64.wrap (((k : Nat) : Int) - 0))) (by kernel_rfl) (congrArg (Value.int .i64) (by rw [Ziv (by omega) (by omega)]; omega))) <| rp 1 (.int .i64 ((k : Nat) : Int)) <| Zad <| Zab <| Zac <| Zaa <| rp 15 (.int .i64 ((k : Nat) : Int)) <| rp 16 (.bool (decide (((k : Nat) : Int) > (0 : Int)))) <| Zad <| Zab ?_
 cases hq1 : (decide (((k : Nat) : Int) > (0 : Int))) with
 | true =>
  refine Zam (fun _ => by kernel_rfl) <| Zaa <| rp 17 (.slice none 0 0) <| rp 18 (.slice none 0 0) <| rp 19 (.int .i64 0) <| rp 20 (.slice none 0 0) <| rp 21 (.int .i64 ((k : Nat) : Int)) ?_
  obtain ⟨cap9, w9, hr9, ho9, hb9⟩ := Zpc w k (by simp only [decide_eq_true_eq] at *; omega) hk
  refine rw_v 22 (.slice (some ⟨w.heap.size, 0, none⟩) k cap9) (fun _ => by kernel_rfl) (fun _ => Zf3 hr9 _ _ rfl (by kernel_rfl) (by kernel_rfl)) <| rp 23 (.slice none 0 0) <| rp 24 (.int .i64 0) <| rv 25 (.slice (some ⟨w.heap.size, 0, none⟩) 0 cap9) (fun _ => Zwa (n := k) _ _ rfl (by kernel_rfl) (by kernel_rfl)) <| rp 0 (.slice (some ⟨w.heap.size, 0, none⟩) 0 cap9) <| Zad <| Zab <| Zac <| Zaa <| rp 26 (.slice (some ⟨w.heap.size, 0, none⟩) 0 cap9) <| rp 4 (.slice (some ⟨w.heap.size, 0, none⟩) 0 cap9) <| Zad ?_
  refine Zab <| Zao ?_
  exact Zae (.slice (some ⟨w.heap.size, 0, none⟩) 0 cap9) (fun _ => by kernel_rfl) ⟨_, rfl, ho9, hb9⟩
 | false =>
  refine Zag (fun _ => by kernel_rfl) <| Zar <| Zab <| Zac <| Zaa <| rp 26 (.slice none 0 0) <| rp 4 (.slice none 0 0) <| Zad <| Zab <| Zao ?_
  exact Zae (.slice none 0 0) (fun _ => by kernel_rfl) ⟨_, rfl, ⟨rfl, .inl ⟨rfl, rfl⟩⟩, hB⟩
set_option maxHeartbeats 1000000 in
theorem Zep {K K' : Nat -> Prop} {w : World} {a a' : Option Addr} {n c n' c' : Nat} {p q : List Int} (h1 : Sk K w a n c p) (h2 : Sk K' w a' n' c' q) {g : Nat} (hL : Rw g w #[.slice a n c, .slice a' n' c'] 23) (hn : n <= 100000) (hn' : n' <= 100000) :
  Calls Tryz.prog 183 #[.slice (some ⟨g, 0, none⟩) 2 2] w fun e w' => ∃ u, e = .returned u /\ ∃ a2 n2 c2, u = .slice a2 n2 c2 /\ Sk (fun b => w.heap.size <= b) w' a2 n2 c2 (p ++ q) /\ Bl w w' := by
 have hw1 : ∀ x, a = some x -> 0 < n -> x.block < w.heap.size := fun x hx hn => h1.old hx hn
 have hw2 : ∀ x, a' = some x -> 0 < n' -> x.block < w.heap.size := fun x hx hn => h2.old hx hn
 have hgw : g < w.heap.size := lt_of_get hL
 have hB := Bl.refl w
 have l1 := h1.len
 have l2 := h2.len
 refine Zat Tryz.func183 rfl 36 rfl ?_
 show CW _ _ _ _ _ _ _ [(0, .slice (some ⟨g, 0, none⟩) 2 2)] _
 refine Zac <| Zaa <| rp 2 (.slice none 0 0) <| Zad <| Zab <| Zac <| Zaa <| rp 3 (.int .i64 0) <| Zad <| Zab <| Zac <| Zac ?_
 refine Zaa <| rp 9 (.slice (some ⟨g, 0, none⟩) 2 2) <| rp 10 (.int .i64 2) <| rp 11 (.int .i64 0) <| Zad <| Zab <| Zbc <| Ze6 (X := Nat × Nat) (fun x => [(11, .int .i64 ((x.1 : Nat) : Int)), (3, .int .i64 ((x.2 : Nat) : Int)), (9, .slice (some ⟨g, 0, none⟩) 2 2), (10, .int .i64 2), (0, .slice (some ⟨g, 0, none⟩) 2 2), (2, .slice none 0 0)]) (fun x v => (Sk K v a n c p /\ Sk K' v a' n' c' q /\ Rw g v #[.slice a n c, .slice a' n' c'] 23 /\ Bl w v) /\ (x = (0, 0) \/ x = (1, n) \/ x = (2, n + n'))) (fun x => 2 - x.1) (0, 0) (by exact ⟨fun _ => by kernel_rfl, ⟨fun _ => by kernel_rfl, ⟨fun _ => by kernel_rfl, ⟨fun _ => by kernel_rfl, ⟨fun _ => by kernel_rfl, ⟨fun _ => by kernel_rfl, trivial⟩⟩⟩⟩⟩⟩) ⟨⟨h1, h2, hL, hB⟩, .inl rfl⟩ ?_
 clear h1 h2 hL hB
 rintro x v ⟨⟨h1, h2, hL, hB⟩, hx⟩
 rcases hx with rfl | rfl | rfl
 ·skip
  show CW _ _ _ _ _ _ _ [(11, .int .i64 0), (3, .int .i64 0), (9, .slice (some ⟨g, 0, none⟩) 2 2), (10, .int .i64 2), (0, .slice (some ⟨g, 0, none⟩) 2 2), (2, .slice none 0 0)] _
  refine Zac <| Zaa <| rp 12 (.bool true) <| Zad <| Zab <| Zac <| Zam (fun _ => by kernel_rfl) <| Zar <| Zab <| Zac <| Zbc <| Zac ?_
  refine Zaa <| rp 13 (.pointer (some ⟨g, 0, none⟩)) <| rv 14 (.slice a n c) (fun _ => Zai 23 _ ⟨g, 0, none⟩ _ _ rfl (by kernel_rfl) (by rw [cell_of_row _ _ _ _ _ _ hL]; rfl) Tryz.underlying23 rfl) <| rp 5 (.slice a n c) <| Zad <| Zab <| Zac <| Zaa <| rp 15 (.int .i64 0) <| rp 16 (.slice a n c) <| rp 17 (.int .i64 n) <| rv 18 (.int .i64 ((n : Nat) : Int)) (fun _ => Zaq (v := .int .i64 (IntKind.i64.wrap ((0 : Int) + ((n : Nat) : Int)))) (by kernel_rfl) (congrArg (Value.int .i64) (by rw [Ziv (by omega) (by omega)]; omega))) ?_
  refine rp 3 (.int .i64 ((n : Nat) : Int)) <| Zad <| Zab <| Zac <| Zaa <| rp 19 (.int .i64 ((n : Nat) : Int)) <| rv 20 (.bool false) (fun _ => Zaq (v := .bool (decide (((n : Nat) : Int) < (0 : Int)))) (by kernel_rfl) (congrArg Value.bool (decide_eq_false (by omega)))) <| Zad <| Zab <| Zag (fun _ => by kernel_rfl) <| Zar <| Zbf ?_
  refine Zab <| Zaa <| rp 22 (.int .i64 1) <| rp 11 (.int .i64 1) <| Zad ?_
  exact Zdv (E := fun x => [(11, .int .i64 ((x.1 : Nat) : Int)), (3, .int .i64 ((x.2 : Nat) : Int)), (9, .slice (some ⟨g, 0, none⟩) 2 2), (10, .int .i64 2), (0, .slice (some ⟨g, 0, none⟩) 2 2), (2, .slice none 0 0)]) (R := fun x v => (Sk K v a n c p /\ Sk K' v a' n' c' q /\ Rw g v #[.slice a n c, .slice a' n' c'] 23 /\ Bl w v) /\ (x = (0, 0) \/ x = (1, n) \/ x = (2, n + n'))) (μ := fun x => 2 - x.1) (x := (0, 0)) (1, n) (by exact ⟨fun _ => by kernel_rfl, ⟨fun _ => by kernel_rfl, ⟨fun _ => by kernel_rfl, ⟨fun _ => by kernel_rfl, ⟨fun _ => by kernel_rfl, ⟨fun _ => by kernel_rfl, trivial⟩⟩⟩⟩⟩⟩) ⟨⟨h1, h2, hL, hB⟩, .inr (.inl rfl)⟩ (by show 2 - 1 < 2 - 0; omega)
 ·skip
  show CW _ _ _ _ _ _ _ [(11, .int .i64 1), (3, .int .i64 ((n : Nat) : Int)), (9, .slice (some ⟨g, 0, none⟩) 2 2), (10, .int .i64 2), (0, .slice (some ⟨g, 0, none⟩) 2 2), (2, .slice none 0 0)] _
  refine Zac <| Zaa <| rp 12 (.bool true) <| Zad <| Zab <| Zac <| Zam (fun _ => by kernel_rfl) <| Zar <| Zab <| Zac <| Zbc <| Zac ?_
  refine Zaa <| rp 13 (.pointer (some ⟨g, 1, none⟩)) <| rv 14 (.slice a' n' c') (fun _ => Zai 23 _ ⟨g, 1, none⟩ _ _ rfl (by kernel_rfl) (by rw [cell_of_row _ _ _ _ _ _ hL]; rfl) Tryz.underlying23 rfl) <| rp 5 (.slice a' n' c') <| Zad <| Zab <| Zac <| Zaa <| rp 15 (.int .i64 ((n : Nat) : Int)) <| rp 16 (.slice a' n' c') <| rp 17 (.int .i64 n') <| rv 18 (.int .i64 ((n + n' : Nat) : Int)) (fun _ => Zaq (v := .int .i64 (IntKind.i64.wrap (((n : Nat) : Int) + ((n' : Nat) : Int)))) (by kernel_rfl) (congrArg (Value.int .i64) (by rw [Ziv (by omega) (by omega)]; omega))) ?_
  refine rp 3 (.int .i64 ((n + n' : Nat) : Int)) <| Zad <| Zab <| Zac <| Zaa <| rp 19 (.int .i64 ((n + n' : Nat) : Int)) <| rv 20 (.bool false) (fun _ => Zaq (v := .bool (decide (((n + n' : Nat) : Int) < (0 : Int)))) (by kernel_rfl) (congrArg Value.bool (decide_eq_false (by omega)))) <| Zad <| Zab <| Zag (fun _ => by kernel_rfl) <| Zar <| Zbf ?_
  refine Zab <| Zaa <| rp 22 (.int .i64 2) <| rp 11 (.int .i64 2) <| Zad ?_
  exact Zdv (E := fun x => [(11, .int .i64 ((x.1 : Nat) : Int)), (3, .int .i64 ((x.2 : Nat) : Int)), (9, .slice (some ⟨g, 0, none⟩) 2 2), (10, .int .i64 2), (0, .slice (some ⟨g, 0, none⟩) 2 2), (2, .slice none 0 0)]) (R := fun x v => (Sk K v a n c p /\ Sk K' v a' n' c' q /\ Rw g v #[.slice a n c, .slice a' n' c'] 23 /\ Bl w v) /\ (x = (0, 0) \/ x = (1, n) \/ x = (2, n + n'))) (μ := fun x => 2 - x.1) (x := (1, n)) (2, n + n') (by exact ⟨fun _ => by kernel_rfl, ⟨fun _ => by kernel_rfl, ⟨fun _ => by kernel_rfl, ⟨fun _ => by kernel_rfl, ⟨fun _ => by kernel_rfl, ⟨fun _ => by kernel_rfl, trivial⟩⟩⟩⟩⟩⟩) ⟨⟨h1, h2, hL, hB⟩, .inr (.inr rfl)⟩ (by show 2 - 2 < 2 - 1; omega)
 ·skip
  show CW _ _ _ _ _ _ _ [(11, .int .i64 2), (3, .int .i64 ((n + n' : Nat) : Int)), (9, .slice (some ⟨g, 0, none⟩) 2 2), (10, .int .i64 2), (0, .slice (some ⟨g, 0, none⟩) 2 2), (2, .slice none 0 0)] _
  refine Zac <| Zaa <| rp 12 (.bool false) <| Zad <| Zab <| Zac <| Zag (fun _ => by kernel_rfl) <| Ze7 <| Za1 <| Za1 <| Zbw <| Zab ?_
  refine Zac ?_
  have hB0 := hB
  refine Zaa <| rp 23 (.int .i64 ((n + n' : Nat) : Int)) <| Zav 24 185 #[.slice none 0 0, .int .i64 ((n + n' : Nat) : Int)] (fun _ => by kernel_rfl) (fun _ => by kernel_rfl) (R := fun u w' => OwnB w' v.heap.size u [] /\ Bl v w') (Zty (n + n') (by omega)) ?_
  rintro vO u1 ⟨hO, hb1⟩
  replace h1 := h1.go hb1
  replace h2 := h2.go hb1
  replace hB := hB.go hb1
  replace hL := hL.go hb1
  have hsz := hB.size
  refine rp 6 (vO) <| Zad <| Zab <| Zac <| Zac <| Zaa <| rp 25 (.slice (some ⟨g, 0, none⟩) 2 2) <| rp 26 (.int .i64 2) <| rp 27 (.int .i64 0) <| Zad <| Zab <| Zbc ?_
  have hbv := hb1.size
  refine Ze6 (X := Nat × Value) (fun x => [(27, .int .i64 ((x.1 : Nat) : Int)), (6, x.2), (25, .slice (some ⟨g, 0, none⟩) 2 2), (26, .int .i64 2)]) (fun x v' => (Sk K v' a n c p /\ Sk K' v' a' n' c' q /\ Rw g v' #[.slice a n c, .slice a' n' c'] 23 /\ Bl w v') /\ v.heap.size <= v'.heap.size /\ ((x.1 = 0 /\ OwnB v' v.heap.size x.2 []) \/ (x.1 = 1 /\ OwnB v' v.heap.size x.2 p) \/ (x.1 = 2 /\ OwnB v' v.heap.size x.2 (p ++ q)))) (fun x => 2 - x.1) (0, vO) (by exact ⟨fun _ => by kernel_rfl, ⟨fun _ => by kernel_rfl, ⟨fun _ => by kernel_rfl, ⟨fun _ => by kernel_rfl, trivial⟩⟩⟩⟩) ⟨⟨h1, h2, hL, hB⟩, hbv, .inl ⟨rfl, hO⟩⟩ ?_
  have hwv := hB0.size
  clear h1 h2 hL hB hO hbv
  rintro ⟨j, vP⟩ v' ⟨⟨h1, h2, hL, hB⟩, hbv, hx⟩
  rcases hx with ⟨hj, hO⟩ | ⟨hj, hO⟩ | ⟨hj, hO⟩ <;> simp only at hj hO <;> subst hj
  ·skip
   show CW _ _ _ _ _ _ _ [(27, .int .i64 0), (6, vP), (25, .slice (some ⟨g, 0, none⟩) 2 2), (26, .int .i64 2)] _
   refine Zac <| Zaa <| rp 28 (.bool true) <| Zad <| Zab <| Zac <| Zam (fun _ => by kernel_rfl) <| Zar <| Zab <| Zac <| Zbc <| Zac ?_
   refine Zaa <| rp 29 (.pointer (some ⟨g, 0, none⟩)) <| rv 30 (.slice a n c) (fun _ => Zai 23 _ ⟨g, 0, none⟩ _ _ rfl (by kernel_rfl) (by rw [cell_of_row _ _ _ _ _ _ hL]; rfl) Tryz.underlying23 rfl) <| rp 8 (.slice a n c) <| Zad <| Zab <| Zaa <| rp 31 (vP) <| rp 32 (.slice a n c) ?_
   obtain ⟨v1, w9, hr9, ho9, hb9⟩ := Zkp hO h1.ag (by simp; omega) hbv
   rw [List.nil_append] at ho9
   refine rw_v 33 v1 (fun _ => by kernel_rfl) (fun _ => Znn hr9 _ _ rfl (by kernel_rfl) (by kernel_rfl)) ?_
   have hb9' : Below w.heap.size v' w9 := hb9.mono hwv
   replace h1 := h1.under hw1 hb9'
   replace h2 := h2.under hw2 hb9'
   replace hL := hL.under hgw hb9'
   replace hB : Bl w w9 := Below.trans hB hb9'
   refine rp 6 (v1) <| Zad <| Zbf <| Zab <| Zaa <| rp 34 (.int .i64 1) <| rp 27 (.int .i64 1) <| Zad ?_
   exact Zdv (E := fun x => [(27, .int .i64 ((x.1 : Nat) : Int)), (6, x.2), (25, .slice (some ⟨g, 0, none⟩) 2 2), (26, .int .i64 2)]) (R := fun x v' => (Sk K v' a n c p /\ Sk K' v' a' n' c' q /\ Rw g v' #[.slice a n c, .slice a' n' c'] 23 /\ Bl w v') /\ v.heap.size <= v'.heap.size /\ ((x.1 = 0 /\ OwnB v' v.heap.size x.2 []) \/ (x.1 = 1 /\ OwnB v' v.heap.size x.2 p) \/ (x.1 = 2 /\ OwnB v' v.heap.size x.2 (p ++ q)))) (μ := fun x => 2 - x.1) (x := (0, vP)) (1, v1) (by exact ⟨fun _ => by kernel_rfl, ⟨fun _ => by kernel_rfl, ⟨fun _ => by kernel_rfl, ⟨fun _ => by kernel_rfl, trivial⟩⟩⟩⟩) ⟨⟨h1, h2, hL, hB⟩, by have := hb9.size; omega, .inr (.inl ⟨rfl, ho9⟩)⟩ (by show 2 - 1 < 2 - 0; omega)
  ·skip
   show CW _ _ _ _ _ _ _ [(27, .int .i64 1), (6, vP), (25, .slice (some ⟨g, 0, none⟩) 2 2), (26, .int .i64 2)] _
   refine Zac <| Zaa <| rp 28 (.bool true) <| Zad <| Zab <| Zac <| Zam (fun _ => by kernel_rfl) <| Zar <| Zab <| Zac <| Zbc <| Zac ?_
   refine Zaa <| rp 29 (.pointer (some ⟨g, 1, none⟩)) <| rv 30 (.slice a' n' c') (fun _ => Zai 23 _ ⟨g, 1, none⟩ _ _ rfl (by kernel_rfl) (by rw [cell_of_row _ _ _ _ _ _ hL]; rfl) Tryz.underlying23 rfl) <| rp 8 (.slice a' n' c') <| Zad <| Zab <| Zaa <| rp 31 (vP) <| rp 32 (.slice a' n' c') ?_
   obtain ⟨v1, w9, hr9, ho9, hb9⟩ := Zkp hO h2.ag (by omega) hbv
   refine rw_v 33 v1 (fun _ => by kernel_rfl) (fun _ => Znn hr9 _ _ rfl (by kernel_rfl) (by kernel_rfl)) ?_
   have hb9' : Below w.heap.size v' w9 := hb9.mono hwv
   replace h1 := h1.under hw1 hb9'
   replace h2 := h2.under hw2 hb9'
   replace hL := hL.under hgw hb9'
   replace hB : Bl w w9 := Below.trans hB hb9'
   refine rp 6 (v1) <| Zad <| Zbf <| Zab <| Zaa <| rp 34 (.int .i64 2) <| rp 27 (.int .i64 2) <| Zad ?_
   exact Zdv (E := fun x => [(27, .int .i64 ((x.1 : Nat) : Int)), (6, x.2), (25, .slice (some ⟨g, 0, none⟩) 2 2), (26, .int .i64 2)]) (R := fun x v' => (Sk K v' a n c p /\ Sk K' v' a' n' c' q /\ Rw g v' #[.slice a n c, .slice a' n' c'] 23 /\ Bl w v') /\ v.heap.size <= v'.heap.size /\ ((x.1 = 0 /\ OwnB v' v.heap.size x.2 []) \/ (x.1 = 1 /\ OwnB v' v.heap.size x.2 p) \/ (x.1 = 2 /\ OwnB v' v.heap.size x.2 (p ++ q)))) (μ := fun x => 2 - x.1) (x := (1, vP)) (2, v1) (by exact ⟨fun _ => by kernel_rfl, ⟨fun _ => by kernel_rfl, ⟨fun _ => by kernel_rfl, ⟨fun _ => by kernel_rfl, trivial⟩⟩⟩⟩) ⟨⟨h1, h2, hL, hB⟩, by have := hb9.size; omega, .inr (.inr ⟨rfl, ho9⟩)⟩ (by show 2 - 2 < 2 - 1; omega)
  ·skip
   show CW _ _ _ _ _ _ _ [(27, .int .i64 2), (6, vP), (25, .slice (some ⟨g, 0, none⟩) 2 2), (26, .int .i64 2)] _
   refine Zac <| Zaa <| rp 28 (.bool false) <| Zad <| Zab <| Zac <| Zag (fun _ => by kernel_rfl) <| Ze7 <| Za1 <| Za1 <| Zbw <| Zab ?_
   refine Zac <| Zaa <| rp 35 (vP) <| rp 2 (vP) <| Zad <| Zab <| Zao ?_
   obtain ⟨a9, c9, rfl, hs9⟩ := hO.sk (K := fun b => w.heap.size <= b) (Zke h1.ag.b h2.ag.b) (fun b hb => by omega)
   exact Zae (.slice a9 (p ++ q).length c9) (fun _ => by kernel_rfl) ⟨_, rfl, _, _, _, rfl, hs9, hB⟩
end Go.Proofs.YtefhepcplempkaaGreat

/- What the document's Right answers, where the document's Decode of what is inline answers as it should. -/
import Derived.Test.YtdkpilgelgjieaaGreatG24
import Derived.Test.YtdkpilgelgjieaaGreatG21
import Derived.Test.YtdkpilgelgjieaaGreatG22
import Derived.Test.YtdkpilgelgjieaaGreatG10
import Derived.Deep.CutRange
set_option linter.unusedVariables false
set_option maxRecDepth 100000
namespace Go.Proofs.YtdkpilgelgjieaaGreat
open Go.RowKit
open Ni (rightP)
theorem Z0e : KD [] = 0 := by
 apply Classical.byContradiction
 intro h
 obtain ⟨n, hn, _⟩ := Zi6 h
 obtain ⟨t, ht, _⟩ := Zen (b := []) (fun x hx => by simp at hx) hn
 have := Zff (b := []) (fun x hx => by simp at hx) ht
 have h1 := Zi0 t
 rw [this.1] at h1
 simp at h1
set_option maxHeartbeats 8000000 in
theorem Zfp (K : Nat -> Prop) (x : NV) (n : PN) (w : World) (h : NodeAt K w x n) (hd : ∀ r, (r = n.c \/ r ∈ n.ks) -> r.i.length < 32 -> DDSaid r.i) :
  Calls Tryz.prog 76 #[.agg x.cells.toArray] w fun e w' => e = .returned (.bool (NR n)) /\ Below w.heap.size w w' := by
 have B := Zcw w x h.c.len
 have HB := Hid.mk (below_new w (.cells x.cells.toArray 104))
 obtain ⟨q1, hq1⟩ : ∃ q, rightP n.p = q := ⟨_, rfl⟩
 obtain ⟨q2, hq2⟩ : ∃ q, emptyP n.c = q := ⟨_, rfl⟩
 obtain ⟨q3, hq3⟩ : ∃ q, refersP KD n.c true = q := ⟨_, rfl⟩
 have hpb := h.p.2.1
 have hvb := h.v.2.1
 have H1 := Hid.mk (show ∀ v, Below w.heap.size w v -> Calls Tryz.prog 88 #[.slice x.pa x.pn x.pc] v fun e w' => e = .returned (.bool q1) /\ w' = v from fun v hv => by
  rw [<- hq1]; exact Ni.rright_any _ _ _ _ v (h.p.1.at hv) (by omega))
 have H2 := Hid.mk (show ∀ v, Below w.heap.size w v -> Calls Tryz.prog 89 #[.agg x.c.cells.toArray] v fun e w' => e = .returned (.bool q2) /\ Below v.heap.size v w' from fun v hv => by
  rw [<- hq2]; exact Zjv K x.c n.c v (h.c.go (Keep.below hv)))
 have H3 := Hid.mk (show ∀ v, Below w.heap.size w v -> Calls Tryz.prog 90 #[.agg x.c.cells.toArray, .bool true] v fun e w' => e = .returned (.bool q3) /\ Below v.heap.size v w' from fun v hv => by
  rw [<- hq3]; exact Zjq K x.c n.c true v (h.c.go (Keep.below hv)) (hd _ (.inl rfl)))
 have HD := Hid.mk (show ∀ r ∈ n.ks, r.i.length < 32 -> DDSaid r.i from fun r hr => hd r (.inr hr))
 have HKS := Hid.mk h.ks
 have hm := h.m
 have HKL := Hid.mk hm.1
 obtain ⟨-, hm2, hm3, hm4, hm5⟩ := hm
 unfold maxLen at hm3
 have HM5 := Hid.mk hm5
 obtain ⟨res, hres⟩ : ∃ res, NR n = res := ⟨_, rfl⟩
 rw [hres]
 unfold NR at hres
 rw [<- Ztg KD Z0e] at hres
 unfold drightP at hres
 rw [hq1, hq2, hq3, h.p.l, h.v.l, <- h.k, <- HKL.out] at hres
 have HRES := Hid.mk hres
 have HLC := Hid.mk h.c.len
 clear h hd hres hm5 hq1 hq2 hq3
 go_enter Tryz.func76, Tryz.ntmps76
 go_upto_region 1 with fail
 refine gen_w (p := fun v => Code.wp _ _ _ _ v) (q := fun v => NBx w.heap.size v x /\ Below w.heap.size w v) ⟨B, HB.out⟩ ?_
 clear B HB
 rintro v ⟨B, hb⟩
 have HB := Hid.mk hb
 have HX := Hid.mk B
 have c0 := B.c0
 have c1 := B.c1
 have c2 := B.c2
 have c37 := B.c37
 obtain ⟨ka, hka0⟩ : ∃ ka, x.ka = ka := ⟨_, rfl⟩
 have HKA := Hid.mk hka0
 rw [hka0] at c37 HKS HM5
 clear hb B hka0
 go_wp2_with fail
 refine (H1.out v HB.out).mono ?_
 rintro e w1 ⟨rfl, rfl⟩
 cases q1 with
 | false =>
  go_wp2_with fail
  go_ret
  refine ⟨congrArg (fun b => Ending.returned (Value.bool b)) ?_, HB.out⟩
  rw [<- HRES.out]
  simp
 | true =>
  by_cases h64 : 64 < x.pn
  ·have h64i : (x.pn : Int) > 64 := by omega
   go_wp2_with fail
   go_ret
   refine ⟨congrArg (fun b => Ending.returned (Value.bool b)) ?_, HB.out⟩
   rw [<- HRES.out]
   simp [h64]
  ·have h64i : ¬ (x.pn : Int) > 64 := by omega
   by_cases h256 : 256 < x.vn
   ·have h256i : (x.vn : Int) > 256 := by omega
    go_wp2_with fail
    go_ret
    refine ⟨congrArg (fun b => Ending.returned (Value.bool b)) ?_, HB.out⟩
    rw [<- HRES.out]
    simp [h256]
   ·have h256i : ¬ (x.vn : Int) > 256 := by omega
    have hres := HRES.out
    rw [if_neg (by simp [h64, h256])] at hres
    have HRES := Hid.mk hres
    clear hres
    by_cases k1 : x.k = 1
    ·by_cases hv1 : 1 <= x.vn
     ·have hv1i : (x.vn : Int) ≥ 1 := by omega
      go_wp2_with (first | refine Za4 rfl _ rfl w.heap.size 3 rfl x.c HLC.out HX.out.child ?_)
      refine (H2.out _ HB.out).mono ?_
      rintro e w2 ⟨rfl, hb2⟩
      have d37 := (HX.out.go hb2).c37
      have HB2 := Hid.mk (below_go HB.out hb2)
      rw [HKA.out] at d37
      clear hb2
      cases q2
      all_goals go_wp2_with fail
      all_goals go_ret
      all_goals refine ⟨congrArg (fun b => Ending.returned (Value.bool b)) ?_, HB2.out⟩
      all_goals rw [<- HRES.out, Bool.eq_iff_iff]
      all_goals first | (simp [k1, hv1]; done) | (simp [k1, hv1]; omega)
     ·have hv1i : ¬ (x.vn : Int) ≥ 1 := by omega
      go_wp2_with fail
      go_ret
      refine ⟨congrArg (fun b => Ending.returned (Value.bool b)) ?_, HB.out⟩
      rw [<- HRES.out, Bool.eq_iff_iff]
      first | (simp [k1, hv1]; done) | (simp [k1, hv1]; omega)
    ·by_cases k2 : x.k = 2
     ·go_wp2_with (first | refine Za4 rfl _ rfl w.heap.size 3 rfl x.c HLC.out HX.out.child ?_)
      refine (H3.out _ HB.out).mono ?_
      rintro e w2 ⟨rfl, hb2⟩
      have d1 := (HX.out.go hb2).c1
      have d2 := (HX.out.go hb2).c2
      have d37 := (HX.out.go hb2).c37
      have HB2 := Hid.mk (below_go HB.out hb2)
      rw [HKA.out] at d37
      clear hb2
      cases q3 with
      | false =>
       go_wp2_with fail
       go_ret
       refine ⟨congrArg (fun b => Ending.returned (Value.bool b)) ?_, HB2.out⟩
       rw [<- HRES.out]
       simp [k2]
      | true =>
       by_cases hp1 : 1 <= x.pn
       ·have hp1i : (x.pn : Int) ≥ 1 := by omega
        by_cases hv0 : x.vn = 0
        ·have hv0i : (x.vn : Int) = 0 := by omega
         have hv0b : ((x.vn : Int) == 0) = true := by simp [hv0]
         have HV := Hid.mk hv0
         clear hv0 hv0i
         go_wp2_with fail
         go_ret
         refine ⟨congrArg (fun b => Ending.returned (Value.bool b)) ?_, HB2.out⟩
         rw [<- HRES.out, Bool.eq_iff_iff]
         first | (simp [k2, hp1, HV.out]; done) | (simp [k2, hp1, HV.out]; omega)
        ·have hv0b : ((x.vn : Int) == 0) = false := by simp; omega
         have HV := Hid.mk hv0
         clear hv0
         go_wp2_with fail
         go_ret
         refine ⟨congrArg (fun b => Ending.returned (Value.bool b)) ?_, HB2.out⟩
         rw [<- HRES.out, Bool.eq_iff_iff]
         first | (simp [k2, hp1, HV.out]; done) | (simp [k2, hp1, HV.out]; omega)
       ·have hp1i : ¬ (x.pn : Int) ≥ 1 := by omega
        go_wp2_with fail
        go_ret
        refine ⟨congrArg (fun b => Ending.returned (Value.bool b)) ?_, HB2.out⟩
        rw [<- HRES.out, Bool.eq_iff_iff]
        first | (simp [k2, hp1]; done) | (simp [k2, hp1]; omega)
     ·by_cases k3 : x.k = 3
      ·by_cases h16 : x.kn = 16
       ·have H16 := Hid.mk h16
        rw [h16] at HKL c37 hm2 hm4
        clear h16
        by_cases hp0 : x.pn = 0
        ·have hp0b : (!((x.pn : Int) == 0)) = false := by simp [hp0]
         have HP := Hid.mk hp0
         clear hp0
         go_wp2_with (first | refine Za4 rfl _ rfl w.heap.size 3 rfl x.c HLC.out HX.out.child ?_)
         refine (H2.out _ HB.out).mono ?_
         rintro e w2 ⟨rfl, hb2⟩
         have HX2 := Hid.mk (HX.out.go hb2)
         have HB2 := Hid.mk (below_go HB.out hb2)
         clear hb2
         cases q2 with
         | false =>
          go_wp2_with fail
          go_ret
          refine ⟨congrArg (fun b => Ending.returned (Value.bool b)) ?_, HB2.out⟩
          rw [<- HRES.out]
          simp [k3]
         | true =>
          go_wp2_with fail
          go_loopw [5, 6] (fun s5 s6 u => ∃ j : Nat, j <= 16 /\ s6 = .int .i64 j /\ s5 = .int .i64 ((ways (n.ks.take j) : Nat) : Int) /\ (∀ r ∈ n.ks.take j, refersP KD r false = true) /\ NBx w.heap.size u x /\ Below w.heap.size w u) (fun _ s6 _ => 16 - (intOf s6).toNat)
          case atStart => exact ⟨0, by omega, rfl, rfl, fun r hr => by simp at hr, HX2.out, HB2.out⟩
          case round =>
           obtain ⟨j, hj, rfl, rfl, hall, hxv, hbv⟩ := hrel
           have HALL := Hid.mk hall
           have HBV := Hid.mk hbv
           have HXV := Hid.mk hxv
           have r2 := hxv.c2
           have r37 := hxv.c37
           rw [HKA.out, H16.out] at r37
           clear hall hbv hxv
           by_cases hlt : j < 16
           ·have hji : (j : Int) < 16 := by omega
            obtain ⟨r, hr⟩ : ∃ r, n.ks[j]? = some r := ⟨_, List.getElem?_eq_getElem (by have := HKL.out; omega)⟩
            obtain ⟨g, off, y, hka, _, hrg, hy⟩ := HKS.out j r hr
            have HRG := Hid.mk (Zco hrg (fun hl => HBV.out.block g hl))
            have HRG0 := Hid.mk hrg
            have HYL := Hid.mk hy.len
            obtain ⟨q, hq⟩ : ∃ q, refersP KD r false = q := ⟨_, rfl⟩
            have HRR := Hid.mk (show ∀ u, Below w.heap.size w u -> Calls Tryz.prog 90 #[.agg y.cells.toArray, .bool false] u fun e w' => e = .returned (.bool q) /\ Below u.heap.size u w' from fun u hu => by
             rw [<- hq]; exact Zjq K y r false u (hy.go (Keep.below hu)) (HD.out r (List.mem_of_getElem? hr)))
            have HQ := Hid.mk hq
            have HR := Hid.mk hr
            have hwl : ways (n.ks.take j) <= j := by have := Ze5 (n.ks.take j); rw [List.length_take] at this; omega
            have HW := Hid.mk (show ways (n.ks.take (j + 1)) = ways (n.ks.take j) + (if y.k ≠ 0 then 1 else 0) from by rw [Zbw hr, Zfh, hy.1])
            clear hrg hy hq hr
            subst hka
            go_wp2_with (first | refine Za4 rfl _ rfl g (off + j * 34) rfl y HYL.out HRG.out ?_)
            refine (HRR.out _ HBV.out).mono ?_
            rintro e w3 ⟨rfl, hb3⟩
            have HX3 := Hid.mk (HXV.out.go hb3)
            have s37 := HX3.out.c37
            rw [HKA.out, H16.out] at s37
            have HB3 := Hid.mk (below_go HBV.out hb3)
            have sk : w3.cell? ⟨g, off + j * 34, none⟩ = some (.int .i64 y.k) := Zco HRG0.out (fun hl => HB3.out.block g hl) 0 _ rfl
            clear hb3
            cases q with
            | false =>
             go_wp2_with fail
             go_ret
             refine ⟨congrArg (fun b => Ending.returned (Value.bool b)) ?_, HB3.out⟩
             rw [<- HRES.out]
             have hno : refers16 KD n.ks = false := by
              unfold refers16
              rw [List.all_eq_false]
              exact ⟨r, List.mem_of_getElem? HR.out, by rw [HQ.out]; simp⟩
             rw [hno]
             simp [k3]
            | true =>
             have HALL2 := Hid.mk (show ∀ r ∈ n.ks.take (j + 1), refersP KD r false = true from fun r' hr' => by
              rw [Zbw HR.out] at hr'
              rcases List.mem_append.1 hr' with h | h
              ·exact HALL.out r' h
              ·simp only [List.mem_cons, List.not_mem_nil, or_false] at h
               rw [h]; exact HQ.out)
             by_cases hk0 : y.k = 0
             ·have hw2 := HW.out
              rw [if_neg (by simp [hk0])] at hw2
              have HW2 := Hid.mk hw2
              clear hw2
              go_wp2_with fail
              go_roundw
              case rel => exact ⟨j + 1, by omega, by simp, by rw [HW2.out]; simp, HALL2.out, HX3.out, HB3.out⟩
              case measure => simp [intOf]; omega
             ·have hw2 := HW.out
              rw [if_pos hk0] at hw2
              have HW2 := Hid.mk hw2
              clear hw2
              go_wp2_with fail
              go_roundw
              case rel => exact ⟨j + 1, by omega, by simp, by rw [HW2.out]; first | (simp; done) | (simp; omega), HALL2.out, HX3.out, HB3.out⟩
              case measure => simp [intOf]; omega
           ·have hji : ¬ (j : Int) < 16 := by omega
            have e16 : n.ks.take j = n.ks := List.take_of_length_le (by have := HKL.out; omega)
            rw [e16] at HALL ⊢
            have HYES := Hid.mk (show refers16 KD n.ks = true from List.all_eq_true.2 HALL.out)
            have hres := HRES.out
            rw [HYES.out, HP.out, H16.out, if_neg (by rw [k3]; decide), if_neg (by rw [k3]; decide), if_neg (by simp [k3]), Bool.true_and] at hres
            have HRES := Hid.mk hres
            have hwl : ways n.ks <= 16 := by have := Ze5 n.ks; have := HKL.out; omega
            generalize ways n.ks = ww at *
            clear e16 hres
            by_cases h2 : 2 <= ww
            ·have h2i : (ww : Int) ≥ 2 := by omega
             go_wp2_with fail
             go_ret
             refine ⟨congrArg (fun b => Ending.returned (Value.bool b)) ?_, HBV.out⟩
             rw [<- HRES.out]
             simp [h2]
            ·have h2i : ¬ (ww : Int) ≥ 2 := by omega
             by_cases h1 : ww = 1
             ·have h1b : ((ww : Int) == 1) = true := by simp [h1]
              have H1w := Hid.mk h1
              clear h1
              go_wp2_with fail
              go_ret
              refine ⟨congrArg (fun b => Ending.returned (Value.bool b)) ?_, HBV.out⟩
              rw [<- HRES.out, Bool.eq_iff_iff]
              first | (simp [H1w.out]; done) | (simp [H1w.out]; omega)
             ·have h1b : ((ww : Int) == 1) = false := by simp; omega
              have H1w := Hid.mk h1
              clear h1
              go_wp2_with fail
              go_ret
              refine ⟨congrArg (fun b => Ending.returned (Value.bool b)) ?_, HBV.out⟩
              rw [<- HRES.out, Bool.eq_iff_iff]
              first | (simp [H1w.out, h2]; done) | (simp [H1w.out, h2]; omega)
        ·have hp0b : (!((x.pn : Int) == 0)) = true := by simp; omega
         have HP := Hid.mk hp0
         clear hp0
         go_wp2_with fail
         go_ret
         refine ⟨congrArg (fun b => Ending.returned (Value.bool b)) ?_, HB.out⟩
         rw [<- HRES.out]
         simp [k3, HP.out]
       ·have h16i : ¬ (x.kn : Int) = 16 := by omega
        have H16 := Hid.mk h16
        clear h16
        go_wp2_with fail
        go_ret
        refine ⟨congrArg (fun b => Ending.returned (Value.bool b)) ?_, HB.out⟩
        rw [<- HRES.out]
        simp [k3, H16.out]
      ·have k3b : (!(x.k == 3)) = true := by simp [k3]
       go_wp2_with fail
       go_ret
       refine ⟨congrArg (fun b => Ending.returned (Value.bool b)) ?_, HB.out⟩
       rw [<- HRES.out]
       simp [k1, k2, k3]
end Go.Proofs.YtdkpilgelgjieaaGreat
namespace Go.Proofs.YtdkpilgelgjieaaGreat
open Go.RowKit
def AllL (w : World) : List T -> List V -> Prop
 | [], [] => True
 | t :: ts, y :: ys => Lies w t y /\ AllL w ts ys
 | _, _ => False
theorem AllL.len {w : World} : ∀ {ts : List T} {ys : List V}, AllL w ts ys -> ts.length = ys.length
 | [], [], _ => rfl
 | t :: ts, y :: ys, h => by have := AllL.len h.2; simp [this]
theorem AllP.lies {P : Nat -> Prop} {w : World} : ∀ {ts : List T} {ys : List V}, AllP P w ts ys -> AllL w ts ys
 | [], [], _ => trivial
 | t :: ts, y :: ys, h => ⟨Zbg t y h.1, AllP.lies h.2⟩
theorem AllL.snoc {w : World} {t : T} {y : V} (h1 : Lies w t y) : ∀ {ts : List T} {ys : List V}, AllL w ts ys -> AllL w (ts ++ [t]) (ys ++ [y])
 | [], [], _ => ⟨h1, trivial⟩
 | _ :: ts, _ :: ys, h => ⟨h.1, AllL.snoc h1 h.2⟩
theorem Zlr {w : World} {g : Nat} {all : List V} (hc : ∀ j u, (all.flatMap V.cells)[j]? = some u -> w.cell? ((⟨g, 0, none⟩ : Addr).add j) = some u) :
  ∀ (ts : List T) (ys pre : List V), all = pre ++ ys -> AllL w ts ys -> LiesAll w ts (some ⟨g, 0, none⟩) pre.length
 | [], [], pre, _, _ => Zbm
 | t :: ts, y :: ys, pre, e, h => by
  have hr := Zlr hc ts ys (pre ++ [y]) (by rw [e]; simp) h.2
  rw [List.length_append] at hr
  refine liesAll_cons.2 ⟨⟨g, 0, y, rfl, ?_, ?_, ?_, h.1⟩, hr⟩
  ·have := hc (pre.length * 3 + 0) (.bool y.l) (by rw [e]; exact Zdd pre y ys 0 _ rfl)
   rw [Zax] at this
   simpa using this
  ·have := hc (pre.length * 3 + 1) (.slice y.ba y.bn y.bc) (by rw [e]; exact Zdd pre y ys 1 _ rfl)
   rw [Zax] at this
   rw [show 0 + pre.length * 3 + 1 = 0 + (pre.length * 3 + 1) from by omega]
   exact this
  ·have := hc (pre.length * 3 + 2) (.slice y.ia y.m y.ic) (by rw [e]; exact Zdd pre y ys 2 _ rfl)
   rw [Zax] at this
   rw [show 0 + pre.length * 3 + 2 = 0 + (pre.length * 3 + 2) from by omega]
   exact this
theorem Zij {w : World} {base : Nat} {v : Value} {ys : List V} {ts : List T} (hown : OwnI w base v ys) (h : AllL w ts ys) :
  ∃ ia ic, v = .slice ia ts.length ic /\ ts.length <= ic /\ ic <= maxLen /\ LiesAll w ts ia 0 := by
 have hl := h.len
 rcases hown.2 with ⟨rfl, hn0⟩ | ⟨g, cap, cur, rfl, hbg, hg, hnc, hcm, hcs, htake⟩
 ·have : ts = [] := List.eq_nil_of_length_eq_zero (by omega)
  subst this
  exact ⟨none, 0, rfl, Nat.le_refl _, by unfold maxLen; omega, Zbm⟩
 ·exact ⟨some ⟨g, 0, none⟩, cap, by rw [hl], by omega, hcm, Zlr (World.ownsRow.cells hown (g := g) rfl) ts ys [] rfl h⟩
theorem Zpz {w0 w wr w1 : World} {it : Value} {ys : List V} {ts : List T} {y : V} {t : T} (hb0 : Below w0.heap.size w0 w) (hown : OwnI wr w.heap.size it ys) (hall : AllP (fun b => w.heap.size <= b /\ it.ownBlock ≠ some b) wr ts ys) (hbel : Below w.heap.size w wr) (hb1 : Below wr.heap.size wr w1)
  (hy : Lies w0 t y) (hlen : ys.length <= 1000000000) (ty : TypeId) :
  ∃ v' w3, (Builtin.append_ #[92, 92] ty #[it, .slice (some ⟨w1.heap.size, 0, none⟩) 1 1]).run Tryz.prog (w1.alloc (.cells #[.bool y.l, .slice y.ba y.bn y.bc, .slice y.ia y.m y.ic] 94)) = .ok v' w3 ∧
   Below w.heap.size w w3 /\ w1.heap.size <= w3.heap.size ∧
   ∃ ia ic, v' = .slice ia (ts.length + 1) ic /\ ts.length + 1 <= ic /\ ic <= maxLen /\ ∀ w4, w3.heap.size <= w4.heap.size -> (∀ b, w.heap.size <= b -> b < w3.heap.size -> w4.heap[b]? = w3.heap[b]?) -> Below w0.heap.size w0 w4 -> LiesAll w4 (ts ++ [t]) ia 0 := by
 obtain ⟨Y, hY⟩ : ∃ Y : Obj, Obj.cells #[.bool y.l, .slice y.ba y.bn y.bc, .slice y.ia y.m y.ic] 94 = Y := ⟨_, rfl⟩
 rw [hY]
 have hs2 : (w1.alloc Y).heap.size = w1.heap.size + 1 := by simp
 have hb2 : Below wr.heap.size wr (w1.alloc Y) := hb1.alloc hb1.size _
 have hz := hbel.size
 have hz1 := hb1.size
 have hblk : (w1.alloc Y).heap[w1.heap.size]? = some Y := heap_alloc_new w1 Y
 have hnews : ∀ j u, (V.cells y)[j]? = some u -> (w1.alloc Y).cell? ((⟨w1.heap.size, 0, none⟩ : Addr).add j) = some u := by
  intro j u hu
  rw [Zax, Nat.zero_add]
  rw [<- hY] at hblk ⊢
  rw [cell_of_row _ _ _ _ _ _ hblk]
  simpa [V.cells] using hu
 obtain ⟨v', w3, hrun, hown3, hgr, hown4⟩ := Zhq (Zca hown fun g _ hg => hb2.block g hg) y _ 1 hnews (by omega) hlen ty
 have hfar : ∀ b, b < w1.heap.size + 1 -> it.ownBlock ≠ some b -> w3.heap[b]? = (w1.alloc Y).heap[b]? := fun b hb hne => hgr.block b (by rw [hs2]; exact hb) (fun h => hne h.symm)
 have hz3 : w1.heap.size <= w3.heap.size := by have := hgr.size; omega
 have hB3 : Below w.heap.size w w3 := by
  refine hbel.trans ⟨hgr.os.trans hb2.os, hgr.tape.trans hb2.tape, hgr.output.trans hb2.output, Nat.le_trans hb2.size hgr.size, fun b hb => ?_⟩
  rw [hfar b (by omega) (fun h => by have := (Zdq hown h).1; omega)]
  exact hb2.block b (by omega)
 have hall3 : AllP (fun b => w.heap.size <= b) w3 ts ys := hall.mono fun b hb hlt => ⟨by rw [hfar b (by omega) hb.2]; exact hb2.block b hlt, hb.1⟩
 refine ⟨v', w3, hrun, hB3, hz3, ?_⟩
 have key : ∀ w4, w3.heap.size <= w4.heap.size -> (∀ b, w.heap.size <= b -> b < w3.heap.size -> w4.heap[b]? = w3.heap[b]?) -> Below w0.heap.size w0 w4 -> ∃ ia ic, v' = .slice ia (ts ++ [t]).length ic /\ (ts ++ [t]).length <= ic /\ ic <= maxLen /\ LiesAll w4 (ts ++ [t]) ia 0 := fun w4 h1 h2 h3 =>
  Zij (Zca hown3 fun g hg hlt => h2 g (Zdq hown3 hg).1 hlt) (AllL.snoc (Zaw h3 t y hy) (AllP.lies (P := fun b => w.heap.size <= b) (hall3.mono fun b hb hlt => ⟨h2 b hb hlt, hb⟩)))
 obtain ⟨ia, ic, e1, e2, e3, _⟩ := key w3 (Nat.le_refl _) (fun _ _ _ => rfl) (below_go hb0 hB3)
 rw [List.length_append] at e1 e2
 refine ⟨ia, ic, e1, e2, e3, fun w4 h1 h2 h3 => ?_⟩
 obtain ⟨ia', ic', e1', _, _, hl⟩ := key w4 h1 h2 h3
 rw [e1, List.length_append] at e1'
 injection e1' with q1 q2 q3
 rw [q1]
 exact hl
def trunc (base : Nat) (w : World) : World := { w with heap := w.heap.take base }
theorem Zf6 {base : Nat} {w : World} (h : base <= w.heap.size) : (trunc base w).heap.size = base := by
 show (w.heap.take base).size = base
 simp
 omega
theorem Ze6 {base : Nat} {w : World} {k : Nat} (h : k < base) : (trunc base w).heap[k]? = w.heap[k]? := by
 show (w.heap.take base)[k]? = w.heap[k]?
 rw [Array.take_eq_extract, Array.getElem?_extract]
 by_cases hk : k < w.heap.size
 ·rw [if_pos (by omega), Nat.zero_add]
 ·rw [if_neg (by omega), Array.getElem?_eq_none (by omega)]
theorem Zhy {base : Nat} {w : World} (h : base <= w.heap.size) : Below base (trunc base w) w := ⟨rfl, rfl, rfl, by rw [Zf6 h]; exact h, fun k hk => (Ze6 hk).symm⟩
theorem Zi4 {base : Nat} {w w' : World} (h : base <= w.heap.size) (hz : w.heap.size <= w'.heap.size) (hb : Below base (trunc base w) w') : Below base w w' := ⟨hb.os, hb.tape, hb.output, hz, fun k hk => (hb.block k hk).trans (Ze6 hk)⟩
theorem Zpy {base : Nat} {wr w1 : World} {it : Value} {ys : List V} {ts : List T} {y : V} {t : T} (hz : base <= wr.heap.size) (hown : OwnI wr base it ys) (hall : AllP (fun b => base <= b /\ it.ownBlock ≠ some b) wr ts ys) (hb1 : Below wr.heap.size wr w1)
  (hy : LiesP (fun b => wr.heap.size <= b) w1 t y) (hlen : ys.length <= 1000000000) (ty : TypeId) :
  ∃ v' w3, (Builtin.append_ #[92, 92] ty #[it, .slice (some ⟨w1.heap.size, 0, none⟩) 1 1]).run Tryz.prog (w1.alloc (.cells #[.bool y.l, .slice y.ba y.bn y.bc, .slice y.ia y.m y.ic] 94)) = .ok v' w3 ∧
   OwnI w3 base v' (ys ++ [y]) /\ AllP (fun b => base <= b /\ v'.ownBlock ≠ some b) w3 (ts ++ [t]) (ys ++ [y]) /\ Below base wr w3 := by
 have hs := Zf6 hz
 obtain ⟨v', w3, h1, h2, h3, h4, _, h6⟩ := Zh2 (w := trunc base wr) (wr := wr) (w1 := w1) (by rw [hs]; exact hown) (by rw [hs]; exact hall) (by rw [hs]; exact Zhy hz) hb1 hy hlen ty
 rw [hs] at h2 h3 h4
 exact ⟨v', w3, h1, h2, h3, Zi4 hz (by have := hb1.size; omega) h4⟩
theorem Zm7 {base : Nat} {w0 wr w1 : World} {it : Value} {ys : List V} {ts : List T} {y : V} {t : T} (hz0 : w0.heap.size <= base) (hb0 : Below w0.heap.size w0 wr) (hz : base <= wr.heap.size) (hown : OwnI wr base it ys) (hall : AllP (fun b => base <= b /\ it.ownBlock ≠ some b) wr ts ys) (hb1 : Below wr.heap.size wr w1)
  (hy : Lies w0 t y) (hlen : ys.length <= 1000000000) (ty : TypeId) :
  ∃ v' w3, (Builtin.append_ #[92, 92] ty #[it, .slice (some ⟨w1.heap.size, 0, none⟩) 1 1]).run Tryz.prog (w1.alloc (.cells #[.bool y.l, .slice y.ba y.bn y.bc, .slice y.ia y.m y.ic] 94)) = .ok v' w3 ∧
   Below base wr w3 ∧
   ∃ ia ic, v' = .slice ia (ts.length + 1) ic /\ ts.length + 1 <= ic /\ ic <= maxLen /\ ∀ w4, w3.heap.size <= w4.heap.size -> (∀ b, base <= b -> b < w3.heap.size -> w4.heap[b]? = w3.heap[b]?) -> Below w0.heap.size w0 w4 -> LiesAll w4 (ts ++ [t]) ia 0 := by
 have hs := Zf6 hz
 have hb0' : Below w0.heap.size w0 (trunc base wr) := ⟨hb0.os, hb0.tape, hb0.output, by rw [hs]; exact hz0, fun k hk => (Ze6 (by omega)).trans (hb0.block k hk)⟩
 obtain ⟨v', w3, h1, h2, h3, h4⟩ := Zpz (w := trunc base wr) (wr := wr) (w1 := w1) hb0' (by rw [hs]; exact hown) (by rw [hs]; exact hall) (by rw [hs]; exact Zhy hz) hb1 hy hlen ty
 rw [hs] at h2 h4
 exact ⟨v', w3, h1, Zi4 hz (by have := hb1.size; omega) h2, h4⟩
structure En (w v : World) (x : NV) (gI : Nat) (it : Value) : Prop where
 row : v.heap[gI]? = some (.cells #[.bool true, .slice none 0 0, it] 94)
 bx : NBx w.heap.size v x
 bel : Below w.heap.size w v
 gi : w.heap.size < gI
 sz : gI + 1 <= v.heap.size
theorem En.go {w v v' : World} {x : NV} {gI : Nat} {it : Value} (h : En w v x gI it) (hb : Below (gI + 1) v v') : En w v' x gI it :=
 ⟨(hb.block gI (by omega)).trans h.row, ⟨(hb.block _ (by have := h.gi; omega)).trans h.bx.row, h.bx.l⟩,
  ⟨hb.os.trans h.bel.os, hb.tape.trans h.bel.tape, hb.output.trans h.bel.output, Nat.le_trans h.bel.size hb.size, fun k hk => (hb.block k (by have := h.gi; omega)).trans (h.bel.block k hk)⟩, h.gi, Nat.le_trans h.sz hb.size⟩
theorem En.all {w v v' : World} {x : NV} {gI : Nat} {it : Value} (h : En w v x gI it) (hb : Below v.heap.size v v') : En w v' x gI it := h.go ⟨hb.os, hb.tape, hb.output, hb.size, fun k hk => hb.block k (by have := h.sz; omega)⟩
theorem En.c0 {w v : World} {x : NV} {gI : Nat} {it : Value} (h : En w v x gI it) : v.cell? ⟨gI, 0, none⟩ = some (.bool true) := by rw [cell_of_row _ _ _ _ _ _ h.row]; rfl
theorem En.c1 {w v : World} {x : NV} {gI : Nat} {it : Value} (h : En w v x gI it) : v.cell? ⟨gI, 1, none⟩ = some (.slice none 0 0) := by rw [cell_of_row _ _ _ _ _ _ h.row]; rfl
theorem En.c2 {w v : World} {x : NV} {gI : Nat} {it : Value} (h : En w v x gI it) : v.cell? ⟨gI, 2, none⟩ = some it := by rw [cell_of_row _ _ _ _ _ _ h.row]; rfl
theorem En.fz {w v : World} {x : NV} {gI : Nat} {it : Value} (h : En w v x gI it) : ∀ o, v.frozen? ⟨gI, o, none⟩ = false := fun o => frozen_of_row _ _ _ _ _ h.row
theorem En.put {w v : World} {x : NV} {gI : Nat} {it : Value} (h : En w v x gI it) (it' : Value) : En w (v.setCell ⟨gI, 2, none⟩ it') x gI it' := by
 refine ⟨?_, ⟨(heap_setCell_other _ _ _ _ (by show w.heap.size ≠ gI; have := h.gi; omega)).trans h.bx.row, h.bx.l⟩, h.bel.setCell (by have := h.gi; show w.heap.size <= gI; omega) it', h.gi, by simpa using h.sz⟩
 have := heap_setCell_same v gI 2 _ 94 it' h.row
 rw [this]
 rfl
def So (gI : Nat) (v : World) (it : Value) (ts : List T) : Prop := ∃ ys : List V, OwnI v (gI + 1) it ys /\ AllP (fun b => gI + 1 <= b /\ it.ownBlock ≠ some b) v ts ys
theorem So.put {gI : Nat} {v : World} {it : Value} {ts : List T} (h : So gI v it ts) (u : Value) : So gI (v.setCell ⟨gI, 2, none⟩ u) it ts := by
 obtain ⟨ys, h1, h2⟩ := h
 exact ⟨ys, Zca h1 fun g hg _ => heap_setCell_other _ _ _ _ (by have := (Zdq h1 hg).1; show g ≠ gI; omega), h2.mono fun b hb _ => ⟨heap_setCell_other _ _ _ _ (by show b ≠ gI; omega), hb⟩⟩
theorem So.all {gI : Nat} {v v' : World} {it : Value} {ts : List T} (h : So gI v it ts) (hb : Below v.heap.size v v') : So gI v' it ts := by
 obtain ⟨ys, h1, h2⟩ := h
 exact ⟨ys, Zca h1 fun g _ hlt => hb.block g hlt, h2.mono fun b hb' hlt => ⟨hb.block b hlt, hb'⟩⟩
theorem Zy7 (gI : Nat) (v : World) : So gI v (.slice none 0 0) [] := ⟨[], World.ownsRow_nil _ _ _ _, trivial⟩
theorem Zv5 {gI : Nat} {wr w1 : World} {it : Value} {ts : List T} {y : V} {t : T} (hz : gI + 1 <= wr.heap.size) (h : So gI wr it ts) (hb1 : Below wr.heap.size wr w1) (hy : LiesP (fun b => wr.heap.size <= b) w1 t y) (hlen : ts.length <= 1000) (ty : TypeId) :
  ∃ v' w3, (Builtin.append_ #[92, 92] ty #[it, .slice (some ⟨w1.heap.size, 0, none⟩) 1 1]).run Tryz.prog (w1.alloc (.cells #[.bool y.l, .slice y.ba y.bn y.bc, .slice y.ia y.m y.ic] 94)) = .ok v' w3 /\ So gI w3 v' (ts ++ [t]) /\ Below (gI + 1) wr w3 := by
 obtain ⟨ys, h1, h2⟩ := h
 obtain ⟨v', w3, e1, e2, e3, e4⟩ := Zpy hz h1 h2 hb1 hy (by have := h2.len; omega) ty
 exact ⟨v', w3, e1, ⟨_, e2, e3⟩, e4⟩
def Full (gI : Nat) (w v : World) (it : Value) (ts : List T) : Prop := ∃ ia ic, it = .slice ia ts.length ic /\ ts.length <= ic /\ ic <= maxLen /\ LiesAll v ts ia 0
theorem So.full {gI : Nat} {w v : World} {it : Value} {ts : List T} (h : So gI v it ts) : Full gI w v it ts := by
 obtain ⟨ys, h1, h2⟩ := h
 exact Zij h1 h2.lies
theorem Zxc {gI : Nat} {w wr w1 : World} {x : NV} {it : Value} {ts : List T} {y : V} {t : T} (hE : En w wr x gI it) (h : So gI wr it ts) (hb1 : Below wr.heap.size wr w1) (hy : Lies w t y) (hlen : ts.length <= 1000) (ty : TypeId) :
  ∃ v' w3, (Builtin.append_ #[92, 92] ty #[it, .slice (some ⟨w1.heap.size, 0, none⟩) 1 1]).run Tryz.prog (w1.alloc (.cells #[.bool y.l, .slice y.ba y.bn y.bc, .slice y.ia y.m y.ic] 94)) = .ok v' w3 /\ Below (gI + 1) wr w3 /\ Full gI w (w3.setCell ⟨gI, 2, none⟩ v') v' (ts ++ [t]) := by
 obtain ⟨ys, h1, h2⟩ := h
 obtain ⟨v', w3, e1, e2, ia, ic, e3, e4, e5, e6⟩ := Zm7 (base := gI + 1) (by have := hE.gi; omega) hE.bel hE.sz h1 h2 hb1 hy (by have := h2.len; omega) ty
 refine ⟨v', w3, e1, e2, ia, ic, by rw [List.length_append]; exact e3, by rw [List.length_append]; exact e4, e5, e6 _ (by simp) (fun b hb _ => heap_setCell_other _ _ _ _ (by show b ≠ gI; omega)) ((hE.go e2).put v').bel⟩
theorem ownB_nil (w : World) (base : Nat) : OwnB w base (.slice none 0 0) [] := ⟨rfl, .inl ⟨rfl, rfl⟩⟩
theorem Zqa {w : World} {base : Nat} {a : Option Addr} {n c : Nat} {bs : List Int} (h : OwnB w base (.slice a n c) bs) : ∀ g off, a = some ⟨g, off, none⟩ -> base <= g /\ ∀ o, w.frozen? ⟨g, o, none⟩ = false := by
 intro g off e
 subst e
 refine ⟨h.lt g rfl, fun o => ?_⟩
 rcases h.2 with ⟨h2, _⟩ | ⟨g', cap, cur, hv, _, hh, _⟩
 ·cases h2
 ·injection hv with e1 _ _
  cases e1
  exact frozen_of_row _ _ _ _ _ hh
theorem Zqr (a : Option Addr) (n c : Nat) (b : List Int) (w : World) (h : Ag w a n c b) (hn : n <= 140737488351232) :
  Calls Tryz.prog 120 #[.slice a n c] w fun e w' => (∃ a' c', e = .returned (.slice a' n c') /\ Ag w' a' n c' b /\ ∀ g off, a' = some ⟨g, off, none⟩ -> w.heap.size <= g /\ ∀ o, w'.frozen? ⟨g, o, none⟩ = false) /\ Below w.heap.size w w' := by
 have HA := Hid.mk h
 clear h
 go_enter Tryz.func120, Tryz.ntmps120
 go_wp2_with (first | (at_builtin; refine Zbx rfl (.tmp 4) (.tmp 5) rfl w.heap.size _ [] rfl (ownB_nil w _) a n c b rfl HA.out.i HA.out.nil HA.out.l (by simp; omega) (Nat.le_refl _) ?_; intro v1 w1 o1 hb1; rw [List.nil_append] at o1; obtain ⟨a1, c1, rfl, hag1⟩ := OwnB.ag o1 HA.out.b; rw [HA.out.l] at hag1 ⊢; have HB1 := Hid.mk hb1; have HA1 := Hid.mk hag1; have HO1 := Hid.mk (Zqa o1); clear o1 hb1 hag1))
 go_ret
 exact ⟨⟨a1, c1, rfl, HA1.out, HO1.out⟩, HB1.out⟩
def pc (b : List Int) (i j : Nat) : List Int := (b.take j).drop i
theorem Zif {b : List Int} {i j : Nat} (h : j <= b.length) : (pc b i j).length = j - i := by unfold pc; rw [List.length_drop, List.length_take]; omega
theorem Zwf {b : List Int} {i j : Nat} (h : j <= i) : pc b i j = [] := by unfold pc; rw [List.drop_of_length_le]; rw [List.length_take]; omega
theorem Zig {b : List Int} {i j : Nat} (h : i < j) (hj : j <= b.length) : pc b i j = b.getD i 0 :: pc b (i + 1) j := by
 unfold pc
 rw [List.drop_eq_getElem_cons (by rw [List.length_take]; omega), List.getElem_take, List.getD, List.getElem?_eq_getElem (by omega)]
 rfl
theorem Zwe {b : List Int} {i j f t : Nat} (h : i + t <= j) : ((pc b i j).take t).drop f = pc b (i + f) (i + t) := by
 unfold pc
 rw [List.take_drop, List.drop_drop, List.take_take, Nat.min_eq_left h]
theorem Zr1 {b : List Int} {i j k : Nat} (h : i + k < j) (hj : j <= b.length) : (pc b i j).getD k 0 = b.getD (i + k) 0 := by
 unfold pc
 rw [List.getD, List.getElem?_drop, List.getElem?_take_of_lt h]
 rfl
theorem Zwg {b : List Int} {i j : Nat} {x : Int} (h : x ∈ pc b i j) : x ∈ b := List.mem_of_mem_take (List.mem_of_mem_drop h)
def zeroV : Value := .agg #[.bool false, .slice none 0 0, .slice none 0 0]
def FPost (w : World) (i : Nat) (r : R) : Ending -> World -> Prop := fun e w' => Below w.heap.size w w' ∧
 match r with
 | .bad er => e = .returned (.tuple #[.agg #[.bool false, .slice none 0 0, .slice none 0 0], .int .i64 0, .int .i64 (er : Nat)]) /\ er ≠ 0
 | .ok t m => ∃ y : V, e = .returned (.tuple #[.agg #[.bool y.l, .slice y.ba y.bn y.bc, .slice y.ia y.m y.ic], .int .i64 (i + m : Nat), .int .i64 0]) /\ LiesP (fun b => w.heap.size <= b) w' t y
def FSaid (k : Nat) : Prop := ∀ (a : Option Addr) (n c : Nat) (b : List Int) (w : World), Ag w a n c b -> n <= 140737488351232 -> ∀ i j d : Nat, i <= j -> j <= n -> d + k = 8 →
 Calls Tryz.prog 117 #[.slice a n c, .int .i64 i, .int .i64 j, .int .i64 d] w (FPost w i (rd k (pc b i j)))
def GPost (w : World) (j : Nat) (r : RL) : Ending -> World -> Prop := fun e w' => Below w.heap.size w w' ∧
 match r with
 | .bad er => e = .returned (.tuple #[.agg #[.bool false, .slice none 0 0, .slice none 0 0], .int .i64 0, .int .i64 (er : Nat)]) /\ er ≠ 0
 | .ok ts => ∃ ia ic, e = .returned (.tuple #[.agg #[.bool true, .slice none 0 0, .slice ia ts.length ic], .int .i64 j, .int .i64 0]) /\ ts.length <= ic /\ ic <= maxLen /\ LiesPAll (fun b => w.heap.size <= b) w' ts ia 0
theorem Zjz {r : List Int} {c : Nat} (h : 3 < c) : lenIn r c = (0, 23) := by unfold lenIn; rw [if_pos h]
theorem Ziu {r : List Int} {c : Nat} (h : ¬ 3 < c) (h2 : r.length < c) : lenIn r c = (0, 22) := by unfold lenIn; rw [if_neg h, if_pos h2]
theorem Zj0 {r : List Int} {c : Nat} (h : ¬ 3 < c) (h2 : ¬ r.length < c) (h3 : r.headD 0 = 0 \/ val (r.take c) <= 55) : lenIn r c = (0, 23) := by unfold lenIn; rw [if_neg h, if_neg h2, if_pos h3]
theorem Zqi {r : List Int} {c : Nat} (h : ¬ 3 < c) (h2 : ¬ r.length < c) (h3 : ¬ (r.headD 0 = 0 \/ val (r.take c) <= 55)) : lenIn r c = (val (r.take c), 0) := by unfold lenIn; rw [if_neg h, if_neg h2, if_neg h3]
theorem Znp {deep : Bool} {x : Int} {r : List Int} (h1 : ¬ (192 <= x /\ deep = true)) (h2 : ¬ x < 128) : hdr deep (x :: r) = if 55 < nOf x then (if (lenIn r (nOf x - 55)).2 ≠ 0 then .bad (lenIn r (nOf x - 55)).2 else if (x :: r).length - (1 + (nOf x - 55)) < (lenIn r (nOf x - 55)).1 then .bad 22 else .ok (1 + (nOf x - 55)) (1 + (nOf x - 55) + (lenIn r (nOf x - 55)).1)) else if (x :: r).length - 1 < nOf x then .bad 22 else .ok 1 (1 + nOf x) := by
 unfold hdr
 simp only
 rw [if_neg h1, if_neg h2]
structure Hd (deep : Bool) (x : Int) (r : List Int) (f L : Nat) : Prop where
 f1 : 1 <= f
 f4 : f <= 4
 L24 : L < 16777216
 iff : f = 1 ↔ L <= 55
 fle : f <= r.length + 1
 eq : hdr deep (x :: r) = if (r.length + 1) - f < L then .bad 22 else .ok f (f + L)
theorem Zwr {deep : Bool} {x : Int} {r : List Int} (h1 : ¬ (192 <= x /\ deep = true)) (h2 : ¬ x < 128) (h3 : ¬ 55 < nOf x) : Hd deep x r 1 (nOf x) :=
 ⟨Nat.le_refl _, by omega, by omega, by omega, by omega, by rw [Znp h1 h2, if_neg h3]; rfl⟩
theorem Zs0 {deep : Bool} {x : Int} {r : List Int} (hb : ∀ y ∈ r, 0 <= y /\ y < 256) (h1 : ¬ (192 <= x /\ deep = true)) (h2 : ¬ x < 128) (h3 : 55 < nOf x) (h4 : ¬ 3 < nOf x - 55) (h5 : ¬ r.length < nOf x - 55) (h6 : ¬ (r.headD 0 = 0 \/ val (r.take (nOf x - 55)) <= 55)) : Hd deep x r (1 + (nOf x - 55)) (val (r.take (nOf x - 55))) := by
 have hv := Zby hb (j := nOf x - 55) (by omega) (by omega)
 refine ⟨by omega, by omega, by omega, by omega, by omega, ?_⟩
 rw [Znp h1 h2, if_pos h3, Zqi h4 h5 h6]
 simp only [ne_eq, not_true, if_false]
 rfl
theorem Zj1 {deep : Bool} {x : Int} {r : List Int} {er : Nat} (h1 : ¬ (192 <= x /\ deep = true)) (h2 : ¬ x < 128) (h3 : 55 < nOf x) (h4 : lenIn r (nOf x - 55) = (0, er)) (her : er ≠ 0) : hdr deep (x :: r) = .bad er := by
 rw [Znp h1 h2, if_pos h3, h4]
 simp only
 rw [if_pos her]
theorem Zdh {g : List Int -> R} {deep : Bool} {b : List Int} {e : Nat} (h : hdr deep b = .bad e) : rd1 g deep b = .bad e := by unfold rd1; rw [h]
theorem Zp2 (a : Option Addr) (n c i j d : Nat) (w : World) (k : Nat) (b : List Int) (hij : ¬ i < j) (hi : i <= 140737488351232) (hrd : rd k (pc b i j) = .bad 22) :
  Calls Tryz.prog 117 #[.slice a n c, .int .i64 i, .int .i64 j, .int .i64 d] w (FPost w i (rd k (pc b i j))) := by
 rw [hrd]
 have hge : (i : Int) ≥ j := by omega
 clear hrd
 go_enter Tryz.func117, Tryz.ntmps117
 go_upto_if 18 with fail
 refine gen_w (p := fun v => Code.wp _ _ _ _ v) (q := Rb w) (Rb.new w) ?_
 intro v R
 have x0 := R.x0
 have x1 := R.x1
 have x2 := R.x2
 have xf := R.xf
 have HR := Hid.mk R
 clear R
 go_wp2_with fail
 have hr := put3 HR.out.row (.bool false) (.slice none 0 0) (.slice none 0 0)
 refine bodyPost_ret (Zag Tryz.results117 _ _ w.heap.size _ _ _ rfl hr) rfl ?_
 exact ⟨Za0 HR.out.bel (Nat.le_refl _) _ _ _, rfl, by decide⟩
theorem Zna (a : Option Addr) (n c i j : Nat) (w : World) (b : List Int) (h : Ag w a n c b) (hn : n <= 140737488351232) (hij : i < j) (hj : j <= n) (x : Int) (hx : b.getD i 0 = x) (h192 : 192 <= x) (res : R) (hres : res = .bad 21) :
  Calls Tryz.prog 117 #[.slice a n c, .int .i64 i, .int .i64 j, .int .i64 8] w (FPost w i res) := by
 subst hres
 obtain ⟨g, off, rfl, hc1, hc2, hc⟩ := ag_head h (by omega)
 unfold maxLen at hc2
 have hcell := hc i (by omega)
 rw [hx] at hcell
 have hxb := (h.b x (by rw [<- hx, List.getD, List.getElem?_eq_getElem (by rw [h.l]; omega)]; exact List.getElem_mem _)).2
 have hlt : (i : Int) < j := by omega
 have hin : (i : Int) < n := by omega
 clear hx hc h
 go_enter Tryz.func117, Tryz.ntmps117
 go_upto_if 18 with fail
 have hcw := Zae (Rb.new w).bel hcell
 refine gen_w (p := fun v => Code.wp _ _ _ _ v) (q := fun v => Rb w v /\ v.cell? ⟨g, off + i, none⟩ = some (.int .u8 x)) ⟨Rb.new w, hcw⟩ ?_
 clear hcell hcw
 rintro v ⟨R, hcell⟩
 have x0 := R.x0
 have x1 := R.x1
 have x2 := R.x2
 have xf := R.xf
 have HR := Hid.mk R
 clear R
 go_wp2_with fail
 have hr := put3 HR.out.row (.bool false) (.slice none 0 0) (.slice none 0 0)
 refine bodyPost_ret (Zag Tryz.results117 _ _ w.heap.size _ _ _ rfl hr) rfl ?_
 exact ⟨Za0 HR.out.bel (Nat.le_refl _) _ _ _, rfl, by decide⟩
set_option maxHeartbeats 1000000 in
theorem Zp1 (a : Option Addr) (n c i j d : Nat) (w : World) (b : List Int) (h : Ag w a n c b) (hn : n <= 140737488351232) (hij : i < j) (hj : j <= n) (x : Int) (hx : b.getD i 0 = x) (h128 : x < 128) (res : R) (hres : res = .ok (.mk false [x] []) 1) :
  Calls Tryz.prog 117 #[.slice a n c, .int .i64 i, .int .i64 j, .int .i64 d] w (FPost w i res) := by
 subst hres
 obtain ⟨g, off, rfl, hc1, hc2, hc⟩ := ag_head h (by omega)
 unfold maxLen at hc2
 have hcell := hc i (by omega)
 rw [hx] at hcell
 have hxb := (h.b x (by rw [<- hx, List.getD, List.getElem?_eq_getElem (by rw [h.l]; omega)]; exact List.getElem_mem _)).1
 have hlt : (i : Int) < j := by omega
 have hin : (i : Int) < n := by omega
 clear hx hc h
 go_enter Tryz.func117, Tryz.ntmps117
 go_upto_if 18 with fail
 have hcw := Zae (Rb.new w).bel hcell
 refine gen_w (p := fun v => Code.wp _ _ _ _ v) (q := fun v => Rb w v /\ v.cell? ⟨g, off + i, none⟩ = some (.int .u8 x)) ⟨Rb.new w, hcw⟩ ?_
 clear hcell hcw
 rintro v ⟨R, hcell⟩
 have HR := Hid.mk R
 clear R
 have R2 := HR.out.alloc (.cells #[.int .u8 x] 5)
 have HR2 := Hid.mk R2
 have x0 := R2.x0
 have x1 := R2.x1
 have x2 := R2.x2
 have xf := R2.xf
 clear R2
 go_wp2_with fail
 have hr := put3 HR2.out.row (.bool false) (.slice (some ⟨v.heap.size, 0, none⟩) 1 1) (.slice none 0 0)
 refine bodyPost_ret (Zag Tryz.results117 _ _ w.heap.size _ _ _ rfl hr) rfl ?_
 have hz := HR.out.bel.size
 have hz2 := lt_of_get HR.out.row
 refine ⟨Za0 HR2.out.bel (Nat.le_refl _) _ _ _, ⟨false, some ⟨v.heap.size, 0, none⟩, 1, 1, none, 0, 0⟩, by simp, ?_⟩
 have hrow : Row v.heap.size (((v.alloc (.cells #[.int .u8 x] 5)).setCell ⟨w.heap.size, 0, none⟩ (.bool false)).setCell ⟨w.heap.size, 1, none⟩ (.slice (some ⟨v.heap.size, 0, none⟩) 1 1) |>.setCell ⟨w.heap.size, 2, none⟩ (.slice none 0 0)) [x] :=
  (Zbv (by omega) _ _ _).trans (heap_alloc_new _ _)
 exact Zc2 hrow rfl (fun y hy => by
  have e : y = x := by simpa using hy
  omega) (by omega) (by omega)
end Go.Proofs.YtdkpilgelgjieaaGreat

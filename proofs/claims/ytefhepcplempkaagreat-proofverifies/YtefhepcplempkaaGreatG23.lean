/- What the document's Empty and refers answer, where the document's Decode of what is inline answers as it should. -/
import Derived.Test.YtefhepcplempkaaGreatG22
import Derived.Test.YtefhepcplempkaaGreatG00
import Derived.Test.YtefhepcplempkaaGreatG02
import Derived.Test.YtefhepcplempkaaGreatG13
import Derived.Test.YtefhepcplempkaaGreatG19
import Derived.Test.YtefhepcplempkaaGreatG09
set_option linter.unusedVariables false
set_option maxRecDepth 100000
namespace Go.Proofs.YtefhepcplempkaaGreat
open Go.RowKit
set_option maxHeartbeats 2000000 in
theorem Zjb (K : Nat -> Prop) (x : RV) (r : PR) (w : World) (h : RefAt K w x r) :
  Calls Tryz.prog 120 #[.agg x.cells.toArray] w fun e w' => e = .returned (.bool (emptyP r)) /\ Below w.heap.size w w' := by
 have B := Zhq w x h.len
 have HB := Hid.mk (below_new w (.cells x.cells.toArray 65))
 obtain ⟨res, hres⟩ : ∃ res, emptyP r = res := ⟨_, rfl⟩
 rw [hres]
 unfold emptyP at hres
 rw [<- h.1, <- h.2.1, h.2.2.2.2.l] at hres
 have HRES := Hid.mk hres
 have hl := h.len
 have hnb := h.2.2.2.2.2.1
 clear h hres
 go_enter Tryz.func120, Tryz.ntmps120
 go_upto_region 1 with fail
 refine gen_w (p := fun v => Code.wp _ _ _ _ v) (q := fun v => RBx w.heap.size v x /\ Below w.heap.size w v) ⟨B, HB.out⟩ ?_
 clear B HB
 rintro v ⟨B, hb⟩
 have HB := Hid.mk hb
 have HX := Hid.mk B
 have HLX := Hid.mk hl
 have c0 := B.c0
 have c1 := B.c33
 clear hb B hl
 by_cases h0 : x.k = 0
 ·by_cases hz : x.d = z32
  ·have HQ := Hid.mk (show (x.d == z32) = true from by simp [hz])
   have HZ := Hid.mk hz
   clear hz
   go_wp2_with (first | refine Zcb rfl _ rfl w.heap.size 1 rfl x.d HLX.out HX.out.digest ?_ | refine Zet rfl _ _ rfl x.d z32 rfl rfl HLX.out Zca true HQ.out ?_)
   go_ret
   refine ⟨congrArg (fun b => Ending.returned (Value.bool b)) ?_, HB.out⟩
   rw [<- HRES.out, Bool.eq_iff_iff]
   first | (simp [h0, HZ.out]; done) | (simp [h0, HZ.out]; omega)
  ·have HQ := Hid.mk (show (x.d == z32) = false from by simp [hz])
   have HZ := Hid.mk hz
   clear hz
   go_wp2_with (first | refine Zcb rfl _ rfl w.heap.size 1 rfl x.d HLX.out HX.out.digest ?_ | refine Zet rfl _ _ rfl x.d z32 rfl rfl HLX.out Zca false HQ.out ?_)
   go_ret
   refine ⟨congrArg (fun b => Ending.returned (Value.bool b)) ?_, HB.out⟩
   rw [<- HRES.out, Bool.eq_iff_iff]
   first | (simp [h0, HZ.out]; done) | (simp [h0, HZ.out]; omega)
 ·go_wp2_with fail
  go_ret
  refine ⟨congrArg (fun b => Ending.returned (Value.bool b)) ?_, HB.out⟩
  rw [<- HRES.out, Bool.eq_iff_iff]
  first | (simp [h0]; done) | (simp [h0]; omega)
def DDPost (w : World) (o : Option PN) : Ending -> World -> Prop := fun e w' => Below w.heap.size w w' ∧
 match o with
 | none => e = .returned (.tuple #[.agg nz.cells.toArray, .int .i64 50])
 | some n => ∃ y : NV, e = .returned (.tuple #[.agg y.cells.toArray, .int .i64 0]) /\ NodeAt (fun g => w.heap.size <= g) w' y n
def DDSaid (b : List Int) : Prop := ∀ (a : Option Addr) (n c : Nat) (w : World), Ag w a n c b -> n <= 140737488351232 -> Calls Tryz.prog 71 #[.slice a n c] w (DDPost w (ND b))
theorem Zwx {b : List Int} (hb : isB b) {w : World} {e : Ending} {w' : World} (h : DDPost w (ND b) e w') : Below w.heap.size w w' /\ ∃ y : NV, e = .returned (.tuple #[.agg y.cells.toArray, .int .i64 (if KD b = 0 then 50 else 0)]) /\ y.k = KD b /\ y.c.d.length = 32 := by
 obtain ⟨hb', hm⟩ := h
 refine ⟨hb', ?_⟩
 unfold KD
 cases ho : ND b with
 | none => rw [ho] at hm; exact ⟨nz, hm, rfl, rfl⟩
 | some n =>
  rw [ho] at hm
  obtain ⟨y, e1, hy⟩ := hm
  have h0 : ¬ kd (some n) = 0 := by
   have := Zm1 (Zlj hb ho).1
   show ¬ n.k = 0
   omega
  rw [if_neg h0]
  exact ⟨y, e1, hy.k, hy.c.len⟩
theorem Zmm {br : Bool} (dk : Int) : (decide (dk ≠ 0) && (!br || decide (dk = 3))) = if dk = 0 then false else if br = true then decide (dk = 3) else true := by
 cases br <;> by_cases h : dk = 0 <;> simp [h]
set_option maxHeartbeats 4000000 in
theorem Zi6 (K : Nat -> Prop) (x : RV) (r : PR) (br : Bool) (w : World) (h : RefAt K w x r) (hd : r.i.length < 32 -> DDSaid r.i) :
  Calls Tryz.prog 121 #[.agg x.cells.toArray, .bool br] w fun e w' => e = .returned (.bool (refersP KD r br)) /\ Below w.heap.size w w' := by
 have B := Zhq w x h.len
 have HB := Hid.mk (below_new w (.cells x.cells.toArray 65))
 have HE := Hid.mk (show ∀ v, Below w.heap.size w v -> Calls Tryz.prog 120 #[.agg x.cells.toArray] v fun e w' => e = .returned (.bool (emptyP r)) /\ Below v.heap.size v w' from fun v hv => Zjb K x r v (h.go (Keep.below hv)))
 have HD := Hid.mk (show x.n < 32 -> ∀ v, Below w.heap.size w v -> Calls Tryz.prog 71 #[.slice x.a x.n x.c] v (DDPost v (ND r.i)) from fun hx v hv => hd (by rw [h.2.2.2.2.l]; exact hx) _ _ _ v (h.2.2.2.2.1.at hv) h.2.2.2.2.2.1)
 have HIB := Hid.mk h.2.2.2.2.1.b
 obtain ⟨res, hres⟩ : ∃ res, refersP KD r br = res := ⟨_, rfl⟩
 obtain ⟨kr, hkr⟩ : ∃ kr, KD r.i = kr := ⟨_, rfl⟩
 obtain ⟨em, hem⟩ : ∃ em, emptyP r = em := ⟨_, rfl⟩
 rw [hres]
 rw [hem] at HE
 unfold refersP at hres
 rw [Zmm, hkr, hem, <- h.1, <- h.2.1, h.2.2.2.2.l] at hres
 have HRES := Hid.mk hres
 have HKR := Hid.mk hkr
 have hl := h.len
 have hnb := h.2.2.2.2.2.1
 clear h hd hkr hres hem
 go_enter Tryz.func121, Tryz.ntmps121
 go_upto_region 1 with fail
 refine gen_w (p := fun v => Code.wp _ _ _ _ v) (q := fun v => RBx w.heap.size v x /\ Below w.heap.size w v) ⟨B, HB.out⟩ ?_
 clear B HB
 rintro v ⟨B, hb⟩
 have HB := Hid.mk hb
 have HX := Hid.mk B
 have HLX := Hid.mk hl
 have c0 := B.c0
 have c1 := B.c33
 clear hb B hl
 by_cases h0 : x.k = 0
 ·go_wp2_with (first | refine Za3 rfl _ rfl w.heap.size 0 rfl x HLX.out HX.out.all ?_)
  refine (HE.out v HB.out).mono ?_
  rintro e w1 ⟨rfl, hb1⟩
  have HB1 := Hid.mk (below_go HB.out hb1)
  clear hb1
  cases br <;> cases em
  all_goals go_wp2_with fail
  all_goals go_ret
  all_goals refine ⟨congrArg (fun b => Ending.returned (Value.bool b)) ?_, HB1.out⟩
  all_goals rw [<- HRES.out]
  all_goals simp [h0]
 ·by_cases h2 : x.k = 2
  ·go_wp2_with fail
   go_ret
   refine ⟨congrArg (fun b => Ending.returned (Value.bool b)) ?_, HB.out⟩
   rw [<- HRES.out, Bool.eq_iff_iff]
   first | (simp [h2]; done) | (simp [h2]; omega)
  ·by_cases h1 : x.k = 1
   ·by_cases h32 : x.n < 32
    ·have hi32 : ¬ (x.n : Int) ≥ 32 := by omega
     by_cases hz : x.d = z32
     ·have HQ := Hid.mk (show (!(x.d == z32)) = false from by simp [hz])
      have HZ := Hid.mk hz
      clear hz
      go_wp2_with (first | refine Zcb rfl _ rfl w.heap.size 1 rfl x.d HLX.out HX.out.digest ?_ | refine Zes rfl _ _ rfl x.d z32 rfl rfl HLX.out Zca false HQ.out ?_)
      refine (HD.out h32 v HB.out).mono ?_
      intro e w1 hp
      obtain ⟨hb1, y, rfl, hyk, hyl⟩ := Zwx HIB.out hp
      rw [HKR.out] at hyk
      rw [HKR.out]
      have HB1 := Hid.mk (below_go HB.out hb1)
      have HS := Hid.mk (show (nz.cells.toArray : Array Value).size = y.cells.toArray.size from by rw [Zu0, List.size_toArray, NV.len hyl])
      have HI := Hid.mk (show (Tryz.prog.info? 68).map (·.size) = some y.cells.toArray.size from by rw [Zdz, List.size_toArray, NV.len hyl])
      have HO := Hid.mk (all_oneCell_toArray y.one)
      have HYK := Hid.mk hyk
      have HYL := Hid.mk hyl
      clear hp hb1 hyk hyl HD HB c0 c1
      obtain ⟨er, her⟩ : ∃ er : Int, (if kr = 0 then (50 : Int) else 0) = er := ⟨_, rfl⟩
      rw [her]
      have HER := Hid.mk her
      clear her
      go_upto_region 10 with (first | refine wpList_store_row rfl 68 _ _ rfl _ y.cells.toArray rfl rfl 68 _ (heap_alloc_new w1 _) HI.out HS.out HO.out ?_)
      refine gen_w (p := fun v => Code.wp _ _ _ _ v) (q := fun v => NBx w1.heap.size v y /\ Below w.heap.size w v) ⟨⟨setRow_heap _ _ _ _ _ _ (heap_alloc_new w1 _), HYL.out⟩, Below.setRow (HB1.out.alloc HB1.out.size _) HB1.out.size _⟩ ?_
      rintro v2 ⟨B, hb⟩
      have d0 := B.c0
      rw [HYK.out] at d0
      have HB2 := Hid.mk hb
      clear B hb
      by_cases hk0 : kr = 0
      ·have her := HER.out
       rw [if_pos hk0] at her
       subst her
       go_wp2_with fail
       go_ret
       refine ⟨congrArg (fun b => Ending.returned (Value.bool b)) ?_, HB2.out⟩
       rw [<- HRES.out]
       simp [h1, hk0]
      ·have her := HER.out
       rw [if_neg hk0] at her
       subst her
       cases br
       ·go_wp2_with fail
        go_ret
        refine ⟨congrArg (fun b => Ending.returned (Value.bool b)) ?_, HB2.out⟩
        rw [<- HRES.out]
        simp [h1, hk0, HZ.out]
        omega
       ·by_cases hk3 : kr = 3
        ·go_wp2_with fail
         go_ret
         refine ⟨congrArg (fun b => Ending.returned (Value.bool b)) ?_, HB2.out⟩
         rw [<- HRES.out]
         simp [h1, hk3, HZ.out]
         omega
        ·go_wp2_with fail
         go_ret
         refine ⟨congrArg (fun b => Ending.returned (Value.bool b)) ?_, HB2.out⟩
         rw [<- HRES.out]
         simp [h1, hk3]
     ·have HQ := Hid.mk (show (!(x.d == z32)) = true from by simp [hz])
      have HZ := Hid.mk hz
      clear hz
      go_wp2_with (first | refine Zcb rfl _ rfl w.heap.size 1 rfl x.d HLX.out HX.out.digest ?_ | refine Zes rfl _ _ rfl x.d z32 rfl rfl HLX.out Zca true HQ.out ?_)
      go_ret
      refine ⟨congrArg (fun b => Ending.returned (Value.bool b)) ?_, HB.out⟩
      rw [<- HRES.out]
      simp [h1, HZ.out]
    ·have hi32 : (x.n : Int) ≥ 32 := by omega
     go_wp2_with fail
     go_ret
     refine ⟨congrArg (fun b => Ending.returned (Value.bool b)) ?_, HB.out⟩
     rw [<- HRES.out]
     simp [h1, show 32 <= x.n from by omega]
   ·go_wp2_with fail
    go_ret
    refine ⟨congrArg (fun b => Ending.returned (Value.bool b)) ?_, HB.out⟩
    rw [<- HRES.out]
    simp [h0, h2, h1]
end Go.Proofs.YtefhepcplempkaaGreat
namespace Go.Proofs.YtefhepcplempkaaGreat.Ni
open Go.RowKit
set_option maxHeartbeats 400000 in
theorem rright_any (a : Option Addr) (n c : Nat) (b : List Int) (w : World) (h : Ag w a n c b) (hn : n <= 140737488355328) :
  Calls Tryz.prog 119 #[.slice a n c] w fun e w' => e = .returned (.bool (rightP b)) /\ w' = w := by
 have HL := Hid.mk h.l
 have HC : Hid (0 < n -> ∃ g off, a = some ⟨g, off, none⟩ /\ n <= c /\ c <= maxLen /\ ∀ j, j < n -> w.cell? ⟨g, off + j, none⟩ = some (.int .u8 (b.getD j 0))) := Hid.mk (ag_head h)
 have HB := Hid.mk h.b
 clear h
 obtain ⟨res, hres⟩ : ∃ r, rightP b = r := ⟨_, rfl⟩
 rw [hres]
 have HRES := Hid.mk hres
 clear hres
 go_enter Tryz.func119, Tryz.ntmps119
 go_wp2_with fail
 go_loopw [3] (fun i v => ∃ j : Nat, j <= n /\ i = .int .i64 j /\ (∀ i, i < j -> b.getD i 0 <= 15) /\ v = w) (fun i _ => n - (intOf i).toNat)
 case atStart => exact ⟨0, by omega, rfl, fun i hi => by omega, rfl⟩
 case round =>
  obtain ⟨j, hj, rfl, hle, rfl⟩ := hrel
  have HLE := Hid.mk hle
  clear hle
  by_cases hlt : j < n
  ·obtain ⟨g, off, rfl, hnc, hcm, hcs⟩ := HC.out (by omega)
   unfold maxLen at hcm
   have hcell := hcs j hlt
   have hx := HB.out _ (getD_mem (show j < b.length by have := HL.out; omega))
   have HX : Hid (b.getD j 0 > 15 -> rightP b = false) := Hid.mk (fun h => Znd (by have := HL.out; omega) h)
   have HY : Hid (b.getD j 0 <= 15 -> ∀ i, i < j + 1 -> b.getD i 0 <= 15) := Hid.mk (fun h i hi => by
    by_cases e : i = j
    ·rw [e]; exact h
    ·exact HLE.out i (by omega))
   generalize b.getD j 0 = x at hcell hx HX HY
   obtain ⟨hx0, hx1⟩ := hx
   have hji : (j : Int) < n := by omega
   clear hcs
   by_cases h15 : x > 15
   ·have e : res = false := HRES.out.symm.trans (HX.out h15)
    subst e
    go_wp2_with fail
    go_ret
    exact ⟨rfl, rfl⟩
   ·have h15' : ¬ x > 15 := h15
    go_wp2_with fail
    exact ⟨⟨j + 1, by omega, by simp, HY.out (by omega), trivial⟩, by simp [intOf]; omega⟩
  ·have hji : ¬ (j : Int) < n := by omega
   have e : res = true := HRES.out.symm.trans (Zk5 fun i hi => HLE.out i (by have := HL.out; omega))
   subst e
   go_wp2_with fail
   go_ret
   exact ⟨rfl, rfl⟩
end Go.Proofs.YtefhepcplempkaaGreat.Ni
namespace Go.Proofs.YtefhepcplempkaaGreat
open Go.RowKit
open Ni (rightP)
theorem Zys : KD [] = 0 := by
 apply Classical.byContradiction
 intro h
 obtain ⟨n, hn, _⟩ := Zil h
 obtain ⟨t, ht, _⟩ := Zdd (b := []) (fun x hx => by simp at hx) hn
 have := Ze5 (b := []) (fun x hx => by simp at hx) ht
 have h1 := Zie t
 rw [this.1] at h1
 simp at h1
set_option maxHeartbeats 8000000 in
theorem Zfh (K : Nat -> Prop) (x : NV) (n : PN) (w : World) (h : NodeAt K w x n) (hd : ∀ r, (r = n.c \/ r ∈ n.ks) -> r.i.length < 32 -> DDSaid r.i) :
  Calls Tryz.prog 85 #[.agg x.cells.toArray] w fun e w' => e = .returned (.bool (NR n)) /\ Below w.heap.size w w' := by
 have B := Zcp w x h.c.len
 have HB := Hid.mk (below_new w (.cells x.cells.toArray 68))
 obtain ⟨q1, hq1⟩ : ∃ q, rightP n.p = q := ⟨_, rfl⟩
 obtain ⟨q2, hq2⟩ : ∃ q, emptyP n.c = q := ⟨_, rfl⟩
 obtain ⟨q3, hq3⟩ : ∃ q, refersP KD n.c true = q := ⟨_, rfl⟩
 have hpb := h.p.2.1
 have hvb := h.v.2.1
 have H1 := Hid.mk (show ∀ v, Below w.heap.size w v -> Calls Tryz.prog 119 #[.slice x.pa x.pn x.pc] v fun e w' => e = .returned (.bool q1) /\ w' = v from fun v hv => by
  rw [<- hq1]; exact Ni.rright_any _ _ _ _ v (h.p.1.at hv) (by omega))
 have H2 := Hid.mk (show ∀ v, Below w.heap.size w v -> Calls Tryz.prog 120 #[.agg x.c.cells.toArray] v fun e w' => e = .returned (.bool q2) /\ Below v.heap.size v w' from fun v hv => by
  rw [<- hq2]; exact Zjb K x.c n.c v (h.c.go (Keep.below hv)))
 have H3 := Hid.mk (show ∀ v, Below w.heap.size w v -> Calls Tryz.prog 121 #[.agg x.c.cells.toArray, .bool true] v fun e w' => e = .returned (.bool q3) /\ Below v.heap.size v w' from fun v hv => by
  rw [<- hq3]; exact Zi6 K x.c n.c true v (h.c.go (Keep.below hv)) (hd _ (.inl rfl)))
 have HD := Hid.mk (show ∀ r ∈ n.ks, r.i.length < 32 -> DDSaid r.i from fun r hr => hd r (.inr hr))
 have HKS := Hid.mk h.ks
 have hm := h.m
 have HKL := Hid.mk hm.1
 obtain ⟨-, hm2, hm3, hm4, hm5⟩ := hm
 unfold maxLen at hm3
 have HM5 := Hid.mk hm5
 obtain ⟨res, hres⟩ : ∃ res, NR n = res := ⟨_, rfl⟩
 rw [hres]
 unfold NR at hres
 rw [<- Zr4 KD Zys] at hres
 unfold drightP at hres
 rw [hq1, hq2, hq3, h.p.l, h.v.l, <- h.k, <- HKL.out] at hres
 have HRES := Hid.mk hres
 have HLC := Hid.mk h.c.len
 clear h hd hres hm5 hq1 hq2 hq3
 go_enter Tryz.func85, Tryz.ntmps85
 go_upto_region 1 with fail
 refine gen_w (p := fun v => Code.wp _ _ _ _ v) (q := fun v => NBx w.heap.size v x /\ Below w.heap.size w v) ⟨B, HB.out⟩ ?_
 clear B HB
 rintro v ⟨B, hb⟩
 have HB := Hid.mk hb
 have HX := Hid.mk B
 have c0 := B.c0
 have c1 := B.c1
 have c2 := B.c2
 have c37 := B.c37
 obtain ⟨ka, hka0⟩ : ∃ ka, x.ka = ka := ⟨_, rfl⟩
 have HKA := Hid.mk hka0
 rw [hka0] at c37 HKS HM5
 clear hb B hka0
 go_wp2_with fail
 refine (H1.out v HB.out).mono ?_
 rintro e w1 ⟨rfl, rfl⟩
 cases q1 with
 | false =>
  go_wp2_with fail
  go_ret
  refine ⟨congrArg (fun b => Ending.returned (Value.bool b)) ?_, HB.out⟩
  rw [<- HRES.out]
  simp
 | true =>
  by_cases h64 : 64 < x.pn
  ·have h64i : (x.pn : Int) > 64 := by omega
   go_wp2_with fail
   go_ret
   refine ⟨congrArg (fun b => Ending.returned (Value.bool b)) ?_, HB.out⟩
   rw [<- HRES.out]
   simp [h64]
  ·have h64i : ¬ (x.pn : Int) > 64 := by omega
   by_cases h256 : 256 < x.vn
   ·have h256i : (x.vn : Int) > 256 := by omega
    go_wp2_with fail
    go_ret
    refine ⟨congrArg (fun b => Ending.returned (Value.bool b)) ?_, HB.out⟩
    rw [<- HRES.out]
    simp [h256]
   ·have h256i : ¬ (x.vn : Int) > 256 := by omega
    have hres := HRES.out
    rw [if_neg (by simp [h64, h256])] at hres
    have HRES := Hid.mk hres
    clear hres
    by_cases k1 : x.k = 1
    ·by_cases hv1 : 1 <= x.vn
     ·have hv1i : (x.vn : Int) ≥ 1 := by omega
      go_wp2_with (first | refine Za3 rfl _ rfl w.heap.size 3 rfl x.c HLC.out HX.out.child ?_)
      refine (H2.out _ HB.out).mono ?_
      rintro e w2 ⟨rfl, hb2⟩
      have d37 := (HX.out.go hb2).c37
      have HB2 := Hid.mk (below_go HB.out hb2)
      rw [HKA.out] at d37
      clear hb2
      cases q2
      all_goals go_wp2_with fail
      all_goals go_ret
      all_goals refine ⟨congrArg (fun b => Ending.returned (Value.bool b)) ?_, HB2.out⟩
      all_goals rw [<- HRES.out, Bool.eq_iff_iff]
      all_goals first | (simp [k1, hv1]; done) | (simp [k1, hv1]; omega)
     ·have hv1i : ¬ (x.vn : Int) ≥ 1 := by omega
      go_wp2_with fail
      go_ret
      refine ⟨congrArg (fun b => Ending.returned (Value.bool b)) ?_, HB.out⟩
      rw [<- HRES.out, Bool.eq_iff_iff]
      first | (simp [k1, hv1]; done) | (simp [k1, hv1]; omega)
    ·by_cases k2 : x.k = 2
     ·go_wp2_with (first | refine Za3 rfl _ rfl w.heap.size 3 rfl x.c HLC.out HX.out.child ?_)
      refine (H3.out _ HB.out).mono ?_
      rintro e w2 ⟨rfl, hb2⟩
      have d1 := (HX.out.go hb2).c1
      have d2 := (HX.out.go hb2).c2
      have d37 := (HX.out.go hb2).c37
      have HB2 := Hid.mk (below_go HB.out hb2)
      rw [HKA.out] at d37
      clear hb2
      cases q3 with
      | false =>
       go_wp2_with fail
       go_ret
       refine ⟨congrArg (fun b => Ending.returned (Value.bool b)) ?_, HB2.out⟩
       rw [<- HRES.out]
       simp [k2]
      | true =>
       by_cases hp1 : 1 <= x.pn
       ·have hp1i : (x.pn : Int) ≥ 1 := by omega
        by_cases hv0 : x.vn = 0
        ·have hv0i : (x.vn : Int) = 0 := by omega
         have hv0b : ((x.vn : Int) == 0) = true := by simp [hv0]
         have HV := Hid.mk hv0
         clear hv0 hv0i
         go_wp2_with fail
         go_ret
         refine ⟨congrArg (fun b => Ending.returned (Value.bool b)) ?_, HB2.out⟩
         rw [<- HRES.out, Bool.eq_iff_iff]
         first | (simp [k2, hp1, HV.out]; done) | (simp [k2, hp1, HV.out]; omega)
        ·have hv0b : ((x.vn : Int) == 0) = false := by simp; omega
         have HV := Hid.mk hv0
         clear hv0
         go_wp2_with fail
         go_ret
         refine ⟨congrArg (fun b => Ending.returned (Value.bool b)) ?_, HB2.out⟩
         rw [<- HRES.out, Bool.eq_iff_iff]
         first | (simp [k2, hp1, HV.out]; done) | (simp [k2, hp1, HV.out]; omega)
       ·have hp1i : ¬ (x.pn : Int) ≥ 1 := by omega
        go_wp2_with fail
        go_ret
        refine ⟨congrArg (fun b => Ending.returned (Value.bool b)) ?_, HB2.out⟩
        rw [<- HRES.out, Bool.eq_iff_iff]
        first | (simp [k2, hp1]; done) | (simp [k2, hp1]; omega)
     ·by_cases k3 : x.k = 3
      ·by_cases h16 : x.kn = 16
       ·have H16 := Hid.mk h16
        rw [h16] at HKL c37 hm2 hm4
        clear h16
        by_cases hp0 : x.pn = 0
        ·have hp0b : (!((x.pn : Int) == 0)) = false := by simp [hp0]
         have HP := Hid.mk hp0
         clear hp0
         go_wp2_with (first | refine Za3 rfl _ rfl w.heap.size 3 rfl x.c HLC.out HX.out.child ?_)
         refine (H2.out _ HB.out).mono ?_
         rintro e w2 ⟨rfl, hb2⟩
         have HX2 := Hid.mk (HX.out.go hb2)
         have HB2 := Hid.mk (below_go HB.out hb2)
         clear hb2
         cases q2 with
         | false =>
          go_wp2_with fail
          go_ret
          refine ⟨congrArg (fun b => Ending.returned (Value.bool b)) ?_, HB2.out⟩
          rw [<- HRES.out]
          simp [k3]
         | true =>
          go_wp2_with fail
          go_loopw [5, 6] (fun s5 s6 u => ∃ j : Nat, j <= 16 /\ s6 = .int .i64 j /\ s5 = .int .i64 ((ways (n.ks.take j) : Nat) : Int) /\ (∀ r ∈ n.ks.take j, refersP KD r false = true) /\ NBx w.heap.size u x /\ Below w.heap.size w u) (fun _ s6 _ => 16 - (intOf s6).toNat)
          case atStart => exact ⟨0, by omega, rfl, rfl, fun r hr => by simp at hr, HX2.out, HB2.out⟩
          case round =>
           obtain ⟨j, hj, rfl, rfl, hall, hxv, hbv⟩ := hrel
           have HALL := Hid.mk hall
           have HBV := Hid.mk hbv
           have HXV := Hid.mk hxv
           have r2 := hxv.c2
           have r37 := hxv.c37
           rw [HKA.out, H16.out] at r37
           clear hall hbv hxv
           by_cases hlt : j < 16
           ·have hji : (j : Int) < 16 := by omega
            obtain ⟨r, hr⟩ : ∃ r, n.ks[j]? = some r := ⟨_, List.getElem?_eq_getElem (by have := HKL.out; omega)⟩
            obtain ⟨g, off, y, hka, _, hrg, hy⟩ := HKS.out j r hr
            have HRG := Hid.mk (Zbr hrg (fun hl => HBV.out.block g hl))
            have HRG0 := Hid.mk hrg
            have HYL := Hid.mk hy.len
            obtain ⟨q, hq⟩ : ∃ q, refersP KD r false = q := ⟨_, rfl⟩
            have HRR := Hid.mk (show ∀ u, Below w.heap.size w u -> Calls Tryz.prog 121 #[.agg y.cells.toArray, .bool false] u fun e w' => e = .returned (.bool q) /\ Below u.heap.size u w' from fun u hu => by
             rw [<- hq]; exact Zi6 K y r false u (hy.go (Keep.below hu)) (HD.out r (List.mem_of_getElem? hr)))
            have HQ := Hid.mk hq
            have HR := Hid.mk hr
            have hwl : ways (n.ks.take j) <= j := by have := Zeu (n.ks.take j); rw [List.length_take] at this; omega
            have HW := Hid.mk (show ways (n.ks.take (j + 1)) = ways (n.ks.take j) + (if y.k ≠ 0 then 1 else 0) from by rw [Zbq hr, Ze9, hy.1])
            clear hrg hy hq hr
            subst hka
            go_wp2_with (first | refine Za3 rfl _ rfl g (off + j * 34) rfl y HYL.out HRG.out ?_)
            refine (HRR.out _ HBV.out).mono ?_
            rintro e w3 ⟨rfl, hb3⟩
            have HX3 := Hid.mk (HXV.out.go hb3)
            have s37 := HX3.out.c37
            rw [HKA.out, H16.out] at s37
            have HB3 := Hid.mk (below_go HBV.out hb3)
            have sk : w3.cell? ⟨g, off + j * 34, none⟩ = some (.int .i64 y.k) := Zbr HRG0.out (fun hl => HB3.out.block g hl) 0 _ rfl
            clear hb3
            cases q with
            | false =>
             go_wp2_with fail
             go_ret
             refine ⟨congrArg (fun b => Ending.returned (Value.bool b)) ?_, HB3.out⟩
             rw [<- HRES.out]
             have hno : refers16 KD n.ks = false := by
              unfold refers16
              rw [List.all_eq_false]
              exact ⟨r, List.mem_of_getElem? HR.out, by rw [HQ.out]; simp⟩
             rw [hno]
             simp [k3]
            | true =>
             have HALL2 := Hid.mk (show ∀ r ∈ n.ks.take (j + 1), refersP KD r false = true from fun r' hr' => by
              rw [Zbq HR.out] at hr'
              rcases List.mem_append.1 hr' with h | h
              ·exact HALL.out r' h
              ·simp only [List.mem_cons, List.not_mem_nil, or_false] at h
               rw [h]; exact HQ.out)
             by_cases hk0 : y.k = 0
             ·have hw2 := HW.out
              rw [if_neg (by simp [hk0])] at hw2
              have HW2 := Hid.mk hw2
              clear hw2
              go_wp2_with fail
              go_roundw
              case rel => exact ⟨j + 1, by omega, by simp, by rw [HW2.out]; simp, HALL2.out, HX3.out, HB3.out⟩
              case measure => simp [intOf]; omega
             ·have hw2 := HW.out
              rw [if_pos hk0] at hw2
              have HW2 := Hid.mk hw2
              clear hw2
              go_wp2_with fail
              go_roundw
              case rel => exact ⟨j + 1, by omega, by simp, by rw [HW2.out]; first | (simp; done) | (simp; omega), HALL2.out, HX3.out, HB3.out⟩
              case measure => simp [intOf]; omega
           ·have hji : ¬ (j : Int) < 16 := by omega
            have e16 : n.ks.take j = n.ks := List.take_of_length_le (by have := HKL.out; omega)
            rw [e16] at HALL ⊢
            have HYES := Hid.mk (show refers16 KD n.ks = true from List.all_eq_true.2 HALL.out)
            have hres := HRES.out
            rw [HYES.out, HP.out, H16.out, if_neg (by rw [k3]; decide), if_neg (by rw [k3]; decide), if_neg (by simp [k3]), Bool.true_and] at hres
            have HRES := Hid.mk hres
            have hwl : ways n.ks <= 16 := by have := Zeu n.ks; have := HKL.out; omega
            generalize ways n.ks = ww at *
            clear e16 hres
            by_cases h2 : 2 <= ww
            ·have h2i : (ww : Int) ≥ 2 := by omega
             go_wp2_with fail
             go_ret
             refine ⟨congrArg (fun b => Ending.returned (Value.bool b)) ?_, HBV.out⟩
             rw [<- HRES.out]
             simp [h2]
            ·have h2i : ¬ (ww : Int) ≥ 2 := by omega
             by_cases h1 : ww = 1
             ·have h1b : ((ww : Int) == 1) = true := by simp [h1]
              have H1w := Hid.mk h1
              clear h1
              go_wp2_with fail
              go_ret
              refine ⟨congrArg (fun b => Ending.returned (Value.bool b)) ?_, HBV.out⟩
              rw [<- HRES.out, Bool.eq_iff_iff]
              first | (simp [H1w.out]; done) | (simp [H1w.out]; omega)
             ·have h1b : ((ww : Int) == 1) = false := by simp; omega
              have H1w := Hid.mk h1
              clear h1
              go_wp2_with fail
              go_ret
              refine ⟨congrArg (fun b => Ending.returned (Value.bool b)) ?_, HBV.out⟩
              rw [<- HRES.out, Bool.eq_iff_iff]
              first | (simp [H1w.out, h2]; done) | (simp [H1w.out, h2]; omega)
        ·have hp0b : (!((x.pn : Int) == 0)) = true := by simp; omega
         have HP := Hid.mk hp0
         clear hp0
         go_wp2_with fail
         go_ret
         refine ⟨congrArg (fun b => Ending.returned (Value.bool b)) ?_, HB.out⟩
         rw [<- HRES.out]
         simp [k3, HP.out]
       ·have h16i : ¬ (x.kn : Int) = 16 := by omega
        have H16 := Hid.mk h16
        clear h16
        go_wp2_with fail
        go_ret
        refine ⟨congrArg (fun b => Ending.returned (Value.bool b)) ?_, HB.out⟩
        rw [<- HRES.out]
        simp [k3, H16.out]
      ·have k3b : (!(x.k == 3)) = true := by simp [k3]
       go_wp2_with fail
       go_ret
       refine ⟨congrArg (fun b => Ending.returned (Value.bool b)) ?_, HB.out⟩
       rw [<- HRES.out]
       simp [k1, k2, k3]
def AllL (w : World) : List T -> List V -> Prop
 | [], [] => True
 | t :: ts, y :: ys => Lies w t y /\ AllL w ts ys
 | _, _ => False
theorem AllL.len {w : World} : ∀ {ts : List T} {ys : List V}, AllL w ts ys -> ts.length = ys.length
 | [], [], _ => rfl
 | t :: ts, y :: ys, h => by have := AllL.len h.2; simp [this]
theorem AllP.lies {P : Nat -> Prop} {w : World} : ∀ {ts : List T} {ys : List V}, AllP P w ts ys -> AllL w ts ys
 | [], [], _ => trivial
 | t :: ts, y :: ys, h => ⟨Zbd t y h.1, AllP.lies h.2⟩
theorem AllL.snoc {w : World} {t : T} {y : V} (h1 : Lies w t y) : ∀ {ts : List T} {ys : List V}, AllL w ts ys -> AllL w (ts ++ [t]) (ys ++ [y])
 | [], [], _ => ⟨h1, trivial⟩
 | _ :: ts, _ :: ys, h => ⟨h.1, AllL.snoc h1 h.2⟩
theorem Zk4 {w : World} {g : Nat} {all : List V} (hc : ∀ j u, (all.flatMap V.cells)[j]? = some u -> w.cell? ((⟨g, 0, none⟩ : Addr).add j) = some u) :
  ∀ (ts : List T) (ys pre : List V), all = pre ++ ys -> AllL w ts ys -> LiesAll w ts (some ⟨g, 0, none⟩) pre.length
 | [], [], pre, _, _ => Zbi
 | t :: ts, y :: ys, pre, e, h => by
  have hr := Zk4 hc ts ys (pre ++ [y]) (by rw [e]; simp) h.2
  rw [List.length_append] at hr
  refine liesAll_cons.2 ⟨⟨g, 0, y, rfl, ?_, ?_, ?_, h.1⟩, hr⟩
  ·have := hc (pre.length * 3 + 0) (.bool y.l) (by rw [e]; exact Zda pre y ys 0 _ rfl)
   rw [Zaz] at this
   simpa using this
  ·have := hc (pre.length * 3 + 1) (.slice y.ba y.bn y.bc) (by rw [e]; exact Zda pre y ys 1 _ rfl)
   rw [Zaz] at this
   rw [show 0 + pre.length * 3 + 1 = 0 + (pre.length * 3 + 1) from by omega]
   exact this
  ·have := hc (pre.length * 3 + 2) (.slice y.ia y.m y.ic) (by rw [e]; exact Zda pre y ys 2 _ rfl)
   rw [Zaz] at this
   rw [show 0 + pre.length * 3 + 2 = 0 + (pre.length * 3 + 2) from by omega]
   exact this
theorem Zhx {w : World} {base : Nat} {v : Value} {ys : List V} {ts : List T} (hown : OwnI w base v ys) (h : AllL w ts ys) :
  ∃ ia ic, v = .slice ia ts.length ic /\ ts.length <= ic /\ ic <= maxLen /\ LiesAll w ts ia 0 := by
 have hl := h.len
 rcases hown.2 with ⟨rfl, hn0⟩ | ⟨g, cap, cur, rfl, hbg, hg, hnc, hcm, hcs, htake⟩
 ·have : ts = [] := List.eq_nil_of_length_eq_zero (by omega)
  subst this
  exact ⟨none, 0, rfl, Nat.le_refl _, by unfold maxLen; omega, Zbi⟩
 ·exact ⟨some ⟨g, 0, none⟩, cap, by rw [hl], by omega, hcm, Zk4 (World.ownsRow.cells hown (g := g) rfl) ts ys [] rfl h⟩
theorem Zoq {w0 w wr w1 : World} {it : Value} {ys : List V} {ts : List T} {y : V} {t : T} (hb0 : Below w0.heap.size w0 w) (hown : OwnI wr w.heap.size it ys) (hall : AllP (fun b => w.heap.size <= b /\ it.ownBlock ≠ some b) wr ts ys) (hbel : Below w.heap.size w wr) (hb1 : Below wr.heap.size wr w1)
  (hy : Lies w0 t y) (hlen : ys.length <= 1000000000) (ty : TypeId) :
  ∃ v' w3, (Builtin.append_ #[107, 107] ty #[it, .slice (some ⟨w1.heap.size, 0, none⟩) 1 1]).run Tryz.prog (w1.alloc (.cells #[.bool y.l, .slice y.ba y.bn y.bc, .slice y.ia y.m y.ic] 109)) = .ok v' w3 ∧
   Below w.heap.size w w3 /\ w1.heap.size <= w3.heap.size ∧
   ∃ ia ic, v' = .slice ia (ts.length + 1) ic /\ ts.length + 1 <= ic /\ ic <= maxLen /\ ∀ w4, w3.heap.size <= w4.heap.size -> (∀ b, w.heap.size <= b -> b < w3.heap.size -> w4.heap[b]? = w3.heap[b]?) -> Below w0.heap.size w0 w4 -> LiesAll w4 (ts ++ [t]) ia 0 := by
 obtain ⟨Y, hY⟩ : ∃ Y : Obj, Obj.cells #[.bool y.l, .slice y.ba y.bn y.bc, .slice y.ia y.m y.ic] 109 = Y := ⟨_, rfl⟩
 rw [hY]
 have hs2 : (w1.alloc Y).heap.size = w1.heap.size + 1 := by simp
 have hb2 : Below wr.heap.size wr (w1.alloc Y) := hb1.alloc hb1.size _
 have hz := hbel.size
 have hz1 := hb1.size
 have hblk : (w1.alloc Y).heap[w1.heap.size]? = some Y := heap_alloc_new w1 Y
 have hnews : ∀ j u, (V.cells y)[j]? = some u -> (w1.alloc Y).cell? ((⟨w1.heap.size, 0, none⟩ : Addr).add j) = some u := by
  intro j u hu
  rw [Zaz, Nat.zero_add]
  rw [<- hY] at hblk ⊢
  rw [cell_of_row _ _ _ _ _ _ hblk]
  simpa [V.cells] using hu
 obtain ⟨v', w3, hrun, hown3, hgr, hown4⟩ := Zg4 (Zb5 hown fun g _ hg => hb2.block g hg) y _ 1 hnews (by omega) hlen ty
 have hfar : ∀ b, b < w1.heap.size + 1 -> it.ownBlock ≠ some b -> w3.heap[b]? = (w1.alloc Y).heap[b]? := fun b hb hne => hgr.block b (by rw [hs2]; exact hb) (fun h => hne h.symm)
 have hz3 : w1.heap.size <= w3.heap.size := by have := hgr.size; omega
 have hB3 : Below w.heap.size w w3 := by
  refine hbel.trans ⟨hgr.os.trans hb2.os, hgr.tape.trans hb2.tape, hgr.output.trans hb2.output, Nat.le_trans hb2.size hgr.size, fun b hb => ?_⟩
  rw [hfar b (by omega) (fun h => by have := (Zdk hown h).1; omega)]
  exact hb2.block b (by omega)
 have hall3 : AllP (fun b => w.heap.size <= b) w3 ts ys := hall.mono fun b hb hlt => ⟨by rw [hfar b (by omega) hb.2]; exact hb2.block b hlt, hb.1⟩
 refine ⟨v', w3, hrun, hB3, hz3, ?_⟩
 have key : ∀ w4, w3.heap.size <= w4.heap.size -> (∀ b, w.heap.size <= b -> b < w3.heap.size -> w4.heap[b]? = w3.heap[b]?) -> Below w0.heap.size w0 w4 -> ∃ ia ic, v' = .slice ia (ts ++ [t]).length ic /\ (ts ++ [t]).length <= ic /\ ic <= maxLen /\ LiesAll w4 (ts ++ [t]) ia 0 := fun w4 h1 h2 h3 =>
  Zhx (Zb5 hown3 fun g hg hlt => h2 g (Zdk hown3 hg).1 hlt) (AllL.snoc (Zay h3 t y hy) (AllP.lies (P := fun b => w.heap.size <= b) (hall3.mono fun b hb hlt => ⟨h2 b hb hlt, hb⟩)))
 obtain ⟨ia, ic, e1, e2, e3, _⟩ := key w3 (Nat.le_refl _) (fun _ _ _ => rfl) (below_go hb0 hB3)
 rw [List.length_append] at e1 e2
 refine ⟨ia, ic, e1, e2, e3, fun w4 h1 h2 h3 => ?_⟩
 obtain ⟨ia', ic', e1', _, _, hl⟩ := key w4 h1 h2 h3
 rw [e1, List.length_append] at e1'
 injection e1' with q1 q2 q3
 rw [q1]
 exact hl
def trunc (base : Nat) (w : World) : World := { w with heap := w.heap.take base }
theorem Zfw {base : Nat} {w : World} (h : base <= w.heap.size) : (trunc base w).heap.size = base := by
 show (w.heap.take base).size = base
 simp
 omega
theorem Zev {base : Nat} {w : World} {k : Nat} (h : k < base) : (trunc base w).heap[k]? = w.heap[k]? := by
 show (w.heap.take base)[k]? = w.heap[k]?
 rw [Array.take_eq_extract, Array.getElem?_extract]
 by_cases hk : k < w.heap.size
 ·rw [if_pos (by omega), Nat.zero_add]
 ·rw [if_neg (by omega), Array.getElem?_eq_none (by omega)]
theorem Zhe {base : Nat} {w : World} (h : base <= w.heap.size) : Below base (trunc base w) w := ⟨rfl, rfl, rfl, by rw [Zfw h]; exact h, fun k hk => (Zev hk).symm⟩
theorem Zik {base : Nat} {w w' : World} (h : base <= w.heap.size) (hz : w.heap.size <= w'.heap.size) (hb : Below base (trunc base w) w') : Below base w w' := ⟨hb.os, hb.tape, hb.output, hz, fun k hk => (hb.block k hk).trans (Zev hk)⟩
theorem Zop {base : Nat} {wr w1 : World} {it : Value} {ys : List V} {ts : List T} {y : V} {t : T} (hz : base <= wr.heap.size) (hown : OwnI wr base it ys) (hall : AllP (fun b => base <= b /\ it.ownBlock ≠ some b) wr ts ys) (hb1 : Below wr.heap.size wr w1)
  (hy : LiesP (fun b => wr.heap.size <= b) w1 t y) (hlen : ys.length <= 1000000000) (ty : TypeId) :
  ∃ v' w3, (Builtin.append_ #[107, 107] ty #[it, .slice (some ⟨w1.heap.size, 0, none⟩) 1 1]).run Tryz.prog (w1.alloc (.cells #[.bool y.l, .slice y.ba y.bn y.bc, .slice y.ia y.m y.ic] 109)) = .ok v' w3 ∧
   OwnI w3 base v' (ys ++ [y]) /\ AllP (fun b => base <= b /\ v'.ownBlock ≠ some b) w3 (ts ++ [t]) (ys ++ [y]) /\ Below base wr w3 := by
 have hs := Zfw hz
 obtain ⟨v', w3, h1, h2, h3, h4, _, h6⟩ := Zhk (w := trunc base wr) (wr := wr) (w1 := w1) (by rw [hs]; exact hown) (by rw [hs]; exact hall) (by rw [hs]; exact Zhe hz) hb1 hy hlen ty
 rw [hs] at h2 h3 h4
 exact ⟨v', w3, h1, h2, h3, Zik hz (by have := hb1.size; omega) h4⟩
theorem Zmh {base : Nat} {w0 wr w1 : World} {it : Value} {ys : List V} {ts : List T} {y : V} {t : T} (hz0 : w0.heap.size <= base) (hb0 : Below w0.heap.size w0 wr) (hz : base <= wr.heap.size) (hown : OwnI wr base it ys) (hall : AllP (fun b => base <= b /\ it.ownBlock ≠ some b) wr ts ys) (hb1 : Below wr.heap.size wr w1)
  (hy : Lies w0 t y) (hlen : ys.length <= 1000000000) (ty : TypeId) :
  ∃ v' w3, (Builtin.append_ #[107, 107] ty #[it, .slice (some ⟨w1.heap.size, 0, none⟩) 1 1]).run Tryz.prog (w1.alloc (.cells #[.bool y.l, .slice y.ba y.bn y.bc, .slice y.ia y.m y.ic] 109)) = .ok v' w3 ∧
   Below base wr w3 ∧
   ∃ ia ic, v' = .slice ia (ts.length + 1) ic /\ ts.length + 1 <= ic /\ ic <= maxLen /\ ∀ w4, w3.heap.size <= w4.heap.size -> (∀ b, base <= b -> b < w3.heap.size -> w4.heap[b]? = w3.heap[b]?) -> Below w0.heap.size w0 w4 -> LiesAll w4 (ts ++ [t]) ia 0 := by
 have hs := Zfw hz
 have hb0' : Below w0.heap.size w0 (trunc base wr) := ⟨hb0.os, hb0.tape, hb0.output, by rw [hs]; exact hz0, fun k hk => (Zev (by omega)).trans (hb0.block k hk)⟩
 obtain ⟨v', w3, h1, h2, h3, h4⟩ := Zoq (w := trunc base wr) (wr := wr) (w1 := w1) hb0' (by rw [hs]; exact hown) (by rw [hs]; exact hall) (by rw [hs]; exact Zhe hz) hb1 hy hlen ty
 rw [hs] at h2 h4
 exact ⟨v', w3, h1, Zik hz (by have := hb1.size; omega) h2, h4⟩
structure En (w v : World) (x : NV) (gI : Nat) (it : Value) : Prop where
 row : v.heap[gI]? = some (.cells #[.bool true, .slice none 0 0, it] 109)
 bx : NBx w.heap.size v x
 bel : Below w.heap.size w v
 gi : w.heap.size < gI
 sz : gI + 1 <= v.heap.size
theorem En.go {w v v' : World} {x : NV} {gI : Nat} {it : Value} (h : En w v x gI it) (hb : Below (gI + 1) v v') : En w v' x gI it :=
 ⟨(hb.block gI (by omega)).trans h.row, ⟨(hb.block _ (by have := h.gi; omega)).trans h.bx.row, h.bx.l⟩,
  ⟨hb.os.trans h.bel.os, hb.tape.trans h.bel.tape, hb.output.trans h.bel.output, Nat.le_trans h.bel.size hb.size, fun k hk => (hb.block k (by have := h.gi; omega)).trans (h.bel.block k hk)⟩, h.gi, Nat.le_trans h.sz hb.size⟩
theorem En.all {w v v' : World} {x : NV} {gI : Nat} {it : Value} (h : En w v x gI it) (hb : Below v.heap.size v v') : En w v' x gI it := h.go ⟨hb.os, hb.tape, hb.output, hb.size, fun k hk => hb.block k (by have := h.sz; omega)⟩
theorem En.c0 {w v : World} {x : NV} {gI : Nat} {it : Value} (h : En w v x gI it) : v.cell? ⟨gI, 0, none⟩ = some (.bool true) := by rw [cell_of_row _ _ _ _ _ _ h.row]; rfl
theorem En.c1 {w v : World} {x : NV} {gI : Nat} {it : Value} (h : En w v x gI it) : v.cell? ⟨gI, 1, none⟩ = some (.slice none 0 0) := by rw [cell_of_row _ _ _ _ _ _ h.row]; rfl
theorem En.c2 {w v : World} {x : NV} {gI : Nat} {it : Value} (h : En w v x gI it) : v.cell? ⟨gI, 2, none⟩ = some it := by rw [cell_of_row _ _ _ _ _ _ h.row]; rfl
theorem En.fz {w v : World} {x : NV} {gI : Nat} {it : Value} (h : En w v x gI it) : ∀ o, v.frozen? ⟨gI, o, none⟩ = false := fun o => frozen_of_row _ _ _ _ _ h.row
theorem En.put {w v : World} {x : NV} {gI : Nat} {it : Value} (h : En w v x gI it) (it' : Value) : En w (v.setCell ⟨gI, 2, none⟩ it') x gI it' := by
 refine ⟨?_, ⟨(heap_setCell_other _ _ _ _ (by show w.heap.size ≠ gI; have := h.gi; omega)).trans h.bx.row, h.bx.l⟩, h.bel.setCell (by have := h.gi; show w.heap.size <= gI; omega) it', h.gi, by simpa using h.sz⟩
 have := heap_setCell_same v gI 2 _ 109 it' h.row
 rw [this]
 rfl
def So (gI : Nat) (v : World) (it : Value) (ts : List T) : Prop := ∃ ys : List V, OwnI v (gI + 1) it ys /\ AllP (fun b => gI + 1 <= b /\ it.ownBlock ≠ some b) v ts ys
theorem So.put {gI : Nat} {v : World} {it : Value} {ts : List T} (h : So gI v it ts) (u : Value) : So gI (v.setCell ⟨gI, 2, none⟩ u) it ts := by
 obtain ⟨ys, h1, h2⟩ := h
 exact ⟨ys, Zb5 h1 fun g hg _ => heap_setCell_other _ _ _ _ (by have := (Zdk h1 hg).1; show g ≠ gI; omega), h2.mono fun b hb _ => ⟨heap_setCell_other _ _ _ _ (by show b ≠ gI; omega), hb⟩⟩
theorem So.all {gI : Nat} {v v' : World} {it : Value} {ts : List T} (h : So gI v it ts) (hb : Below v.heap.size v v') : So gI v' it ts := by
 obtain ⟨ys, h1, h2⟩ := h
 exact ⟨ys, Zb5 h1 fun g _ hlt => hb.block g hlt, h2.mono fun b hb' hlt => ⟨hb.block b hlt, hb'⟩⟩
theorem Zxm (gI : Nat) (v : World) : So gI v (.slice none 0 0) [] := ⟨[], World.ownsRow_nil _ _ _ _, trivial⟩
theorem Zuo {gI : Nat} {wr w1 : World} {it : Value} {ts : List T} {y : V} {t : T} (hz : gI + 1 <= wr.heap.size) (h : So gI wr it ts) (hb1 : Below wr.heap.size wr w1) (hy : LiesP (fun b => wr.heap.size <= b) w1 t y) (hlen : ts.length <= 1000) (ty : TypeId) :
  ∃ v' w3, (Builtin.append_ #[107, 107] ty #[it, .slice (some ⟨w1.heap.size, 0, none⟩) 1 1]).run Tryz.prog (w1.alloc (.cells #[.bool y.l, .slice y.ba y.bn y.bc, .slice y.ia y.m y.ic] 109)) = .ok v' w3 /\ So gI w3 v' (ts ++ [t]) /\ Below (gI + 1) wr w3 := by
 obtain ⟨ys, h1, h2⟩ := h
 obtain ⟨v', w3, e1, e2, e3, e4⟩ := Zop hz h1 h2 hb1 hy (by have := h2.len; omega) ty
 exact ⟨v', w3, e1, ⟨_, e2, e3⟩, e4⟩
def Full (gI : Nat) (w v : World) (it : Value) (ts : List T) : Prop := ∃ ia ic, it = .slice ia ts.length ic /\ ts.length <= ic /\ ic <= maxLen /\ LiesAll v ts ia 0
theorem So.full {gI : Nat} {w v : World} {it : Value} {ts : List T} (h : So gI v it ts) : Full gI w v it ts := by
 obtain ⟨ys, h1, h2⟩ := h
 exact Zhx h1 h2.lies
theorem Zvt {gI : Nat} {w wr w1 : World} {x : NV} {it : Value} {ts : List T} {y : V} {t : T} (hE : En w wr x gI it) (h : So gI wr it ts) (hb1 : Below wr.heap.size wr w1) (hy : Lies w t y) (hlen : ts.length <= 1000) (ty : TypeId) :
  ∃ v' w3, (Builtin.append_ #[107, 107] ty #[it, .slice (some ⟨w1.heap.size, 0, none⟩) 1 1]).run Tryz.prog (w1.alloc (.cells #[.bool y.l, .slice y.ba y.bn y.bc, .slice y.ia y.m y.ic] 109)) = .ok v' w3 /\ Below (gI + 1) wr w3 /\ Full gI w (w3.setCell ⟨gI, 2, none⟩ v') v' (ts ++ [t]) := by
 obtain ⟨ys, h1, h2⟩ := h
 obtain ⟨v', w3, e1, e2, ia, ic, e3, e4, e5, e6⟩ := Zmh (base := gI + 1) (by have := hE.gi; omega) hE.bel hE.sz h1 h2 hb1 hy (by have := h2.len; omega) ty
 refine ⟨v', w3, e1, e2, ia, ic, by rw [List.length_append]; exact e3, by rw [List.length_append]; exact e4, e5, e6 _ (by simp) (fun b hb _ => heap_setCell_other _ _ _ _ (by show b ≠ gI; omega)) ((hE.go e2).put v').bel⟩
end Go.Proofs.YtefhepcplempkaaGreat

/- What a writer writes: extensions. -/
import Derived.Test.YtdkpilgelgjieaaGreatG23
import Derived.Test.YtdkpilgelgjieaaGreatG21
import Derived.Test.YtdkpilgelgjieaaGreatG22
import Derived.Test.YtdkpilgelgjieaaGreatG01
import Derived.Test.YtdkpilgelgjieaaGreatG02
set_option linter.unusedVariables false
set_option maxRecDepth 100000
namespace Go.Proofs.YtdkpilgelgjieaaGreat
open Go.RowKit
open Tr
theorem Zwn (y : NV) : y.cells.toArray.all (·.oneCell') = true := all_oneCell_toArray (NV.one y)
end Go.Proofs.YtdkpilgelgjieaaGreat
namespace Go.Proofs.YtdkpilgelgjieaaGreat
open Go.RowKit
open Di (dref)
set_option maxHeartbeats 4000000 in
theorem Zpx (a : Option Addr) (n c : Nat) (b : List Int) (w : World) (h : Ag w a n c b) (hn : n <= 140737488351232) : Calls Tryz.prog 62 #[.slice a n c] w (RfPost w b) := by
 have hl := h.l
 by_cases h32 : n < 32
 ·have hr : referP b = ⟨1, z32, b⟩ := by unfold referP; rw [if_pos (by omega)]
  unfold RfPost
  rw [hr]
  have h32i : (n : Int) < 32 := by omega
  have HAG := Hid.mk h
  have HLB := Hid.mk hl
  clear hr h hl
  go_enter Tryz.func62, Tryz.ntmps62
  go_upto_region 1 with fail
  refine gen_w (p := fun v => Code.wp _ _ _ _ v) (q := fun v => v.heap[w.heap.size]? = some (.cells rz.cells.toArray 60) /\ Below w.heap.size w v /\ w.heap.size + 1 <= v.heap.size) ⟨heap_alloc_new _ _, below_new _ _, by simp⟩ ?_
  rintro v ⟨hrow, hb, hsz⟩
  have HROW := Hid.mk hrow
  have HB := Hid.mk hb
  have HSZ := Hid.mk hsz
  have HA2 := Hid.mk (h_at HAG.out hb)
  clear hrow hb hsz
  go_upto_region 2 with fail
  rename_i KK hkk
  refine wp_region_lit <| Zn2 6 (.slice (some ⟨v.heap.size, 0, none⟩) 0 0) rfl (by kernel_rfl) (Zxk rfl) <| Zal 7 (.slice a n c) rfl (by kernel_rfl) (by kernel_rfl) ?_
  have hag2 := HA2.out.at (below_new v (.cells #[] 5))
  refine Zbx rfl (.tmp 6) (.tmp 7) rfl v.heap.size _ [] (by kernel_rfl) (OwnB.new v) a n c b (by kernel_rfl) hag2.i hag2.nil hag2.l (by simp; omega) (by simp) ?_
  intro v1 w1 o1 hb1
  rw [List.nil_append] at o1
  obtain ⟨a1, c1, rfl, hag⟩ := o1.ag HAG.out.b
  rw [HLB.out] at hag ⊢
  have hbv : Below v.heap.size v w1 := (below_new v (.cells #[] 5)).trans hb1
  have hrow1 := Below.row hbv HROW.out
  have hfz : Fr v.heap.size w1 a1 n := fun g off e h0 => by
   rcases o1.2 with ⟨hx, _⟩ | ⟨g', cap', cur, hx, hg', hh, _⟩
   ·injection hx with e1; rw [e1] at e; cases e
   ·cases hx
    cases e
    exact ⟨hg', fun o => frozen_of_row _ _ _ _ _ hh⟩
  refine Zal 9 (.agg (RV.cells ⟨1, z32, a1, n, c1⟩).toArray) rfl (by kernel_rfl) (Zb9 60 _ rfl [(0, .int .i64 1), (2, .slice a1 n c1)] (by kernel_rfl) _ (Zvn _ _ _)) <| Zdy rfl (by kernel_rfl) (Zbs 60 _ _ rfl w.heap.size (RV.cells ⟨1, z32, a1, n, c1⟩).toArray (by kernel_rfl) (by kernel_rfl) 60 rz.cells.toArray hrow1 (Zb1 rfl) (Zbr rfl) (all_oneCell_toArray (RV.one _))) <| hkk _ _ <| Znq (post := fun e w' => (∃ y : RV, e = .returned (.agg y.cells.toArray) /\ RefAt (Own w.heap.size w') w' y ⟨1, z32, b⟩) /\ Below w.heap.size w w') Tryz.results62 (fun h => h) w.heap.size ⟨1, z32, a1, n, c1⟩ rfl (by kernel_rfl) (by kernel_rfl) (setRow_heap _ _ _ _ _ _ hrow1) ?_
  refine ⟨⟨⟨1, z32, a1, n, c1⟩, rfl, rfl, rfl, Ziw, rfl, (show AgK (Own v.heap.size w1) w1 a1 n c1 b from ⟨hag, by omega, fun g off e h0 => hfz g off e h0⟩).go (Keep.setRow (base := v.heap.size) (base' := w.heap.size) (g := w.heap.size) (by have := HSZ.out; omega) (by have := HSZ.out; omega))⟩, Below.setRow (below_go HB.out hbv) (Nat.le_refl _) _⟩
 ·have hr : referP b = ⟨2, dref b, []⟩ := by unfold referP; rw [if_neg (by omega)]
  unfold RfPost
  rw [hr]
  have h32i : ¬ (n : Int) < 32 := by omega
  have HOF := Hid.mk (fun v (hv : Below w.heap.size w v) => Zhe a n c b v (h.at hv) hn)
  have HDL := Hid.mk (dref_len b)
  have HDB := Hid.mk (Zpd b)
  obtain ⟨ds, hds⟩ : ∃ ds, dref b = ds := ⟨_, rfl⟩
  rw [hds] at HOF HDL HDB ⊢
  clear hr h hl hds
  go_enter Tryz.func62, Tryz.ntmps62
  go_upto_region 1 with fail
  refine gen_w (p := fun v => Code.wp _ _ _ _ v) (q := fun v => v.heap[w.heap.size]? = some (.cells rz.cells.toArray 60) /\ Below w.heap.size w v) ⟨heap_alloc_new _ _, below_new _ _⟩ ?_
  rintro v ⟨hrow, hb⟩
  have HROW := Hid.mk hrow
  have HB := Hid.mk hb
  clear hrow hb
  go_upto_region 3 with fail
  rename_i KK hkk
  refine wp_region_lit <| Zal 10 (.slice a n c) rfl (by kernel_rfl) (by kernel_rfl) <| Zkg 11 rfl (by kernel_rfl) 25 #[.slice a n c] (by kernel_rfl) (R := fun val w' => val = .agg (B8 ds) /\ Below v.heap.size v w') ((HOF.out v HB.out).mono (fun e w' h => ⟨_, h.1, rfl, h.2⟩)) ?_
  rintro val w1 ⟨rfl, hb1⟩
  have hrow1 := Below.row hb1 HROW.out
  refine Zal 12 (.agg (RV.cells ⟨2, ds, none, 0, 0⟩).toArray) rfl (by kernel_rfl) (Zb9 60 _ rfl [(0, .int .i64 2), (1, .agg (B8 ds))] (by kernel_rfl) _ (Zms ds HDL.out)) <| Zdy rfl (by kernel_rfl) (Zbs 60 _ _ rfl w.heap.size (RV.cells ⟨2, ds, none, 0, 0⟩).toArray (by kernel_rfl) (by kernel_rfl) 60 rz.cells.toArray hrow1 (Zb1 HDL.out) (Zbr HDL.out) (all_oneCell_toArray (RV.one _))) <| hkk _ _ <| Znq (post := fun e w' => (∃ y : RV, e = .returned (.agg y.cells.toArray) /\ RefAt (Own w.heap.size w') w' y ⟨2, ds, []⟩) /\ Below w.heap.size w w') Tryz.results62 (fun h => h) w.heap.size ⟨2, ds, none, 0, 0⟩ HDL.out (by kernel_rfl) (by kernel_rfl) (setRow_heap _ _ _ _ _ _ hrow1) ?_
  exact ⟨⟨⟨2, ds, none, 0, 0⟩, rfl, rfl, rfl, HDB.out, HDL.out, Zd7 _ _⟩, Below.setRow (below_go HB.out hb1) (Nat.le_refl _) _⟩
end Go.Proofs.YtdkpilgelgjieaaGreat
namespace Go.Proofs.YtdkpilgelgjieaaGreat
open Go.RowKit
open Ni (rightP)
def emptyP (r : PR) : Bool := decide (r.k = 0) && decide (r.d = z32) && decide (r.i.length = 0)
def refersP (dk : List Int -> Int) (r : PR) (br : Bool) : Bool :=
 if r.k = 0 then emptyP r && !br
 else if r.k = 2 then decide (r.i.length = 0)
 else if r.k = 1 then (if 32 <= r.i.length \/ r.d ≠ z32 then false else decide (dk r.i ≠ 0) && (!br || decide (dk r.i = 3)))
 else false
def refers16 (dk : List Int -> Int) (ks : List PR) : Bool := ks.all fun r => refersP dk r false
def drightP (dk : List Int -> Int) (n : PN) : Bool :=
 if rightP n.p = false \/ 64 < n.p.length \/ 256 < n.v.length then false
 else if n.k = 1 then decide (1 <= n.v.length) && emptyP n.c && decide (n.ks.length = 0)
 else if n.k = 2 then refersP dk n.c true && decide (1 <= n.p.length) && decide (n.v.length = 0) && decide (n.ks.length = 0)
 else if n.k ≠ 3 \/ n.ks.length ≠ 16 \/ n.p.length ≠ 0 \/ emptyP n.c = false then false
 else refers16 dk n.ks && (decide (2 <= ways n.ks) || (decide (ways n.ks = 1) && decide (0 < n.v.length)))
theorem Zlw (dk : List Int -> Int) (r : PR) : refersP dk r false = rrefP dk r := by
 unfold refersP rrefP emptyP
 by_cases h0 : r.k = 0
 ·simp [h0]
 ·by_cases h2 : r.k = 2
  ·simp [h2]
  ·by_cases h1 : r.k = 1
   ·by_cases h32 : 32 <= r.i.length
    ·simp [h1, h32, show ¬ r.i.length < 32 from by omega]
    ·by_cases hd : r.d = z32
     ·simp [h1, hd, show r.i.length < 32 from by omega, show ¬ 32 <= r.i.length from h32]
     ·simp [h1, hd]
   ·simp [h0, h1, h2]
theorem Ztf (dk : List Int -> Int) (r : PR) : emptyP r = (rrefP dk r && decide (r.k = 0)) := by
 unfold emptyP rrefP
 by_cases h0 : r.k = 0
 ·simp [h0]
 ·simp [h0]
theorem Znb (dk : List Int -> Int) (h0 : dk [] = 0) (r : PR) : refersP dk r true = (rrefP dk r && (decide (r.k = 2) || decide (dk r.i = 3))) := by
 unfold refersP rrefP emptyP
 by_cases hk0 : r.k = 0
 ·by_cases hi : r.i = []
  ·simp [hk0, hi, h0]
  ·simp [hk0, hi]
 ·by_cases h2 : r.k = 2
  ·simp [h2]
  ·by_cases h1 : r.k = 1
   ·by_cases h32 : 32 <= r.i.length
    ·simp [h1, h32, show ¬ r.i.length < 32 from by omega]
    ·by_cases hd : r.d = z32
     ·simp [h1, hd, show r.i.length < 32 from by omega, show ¬ 32 <= r.i.length from h32]
     ·simp [h1, hd]
   ·simp [hk0, h1, h2]
theorem Ztg (dk : List Int -> Int) (h0 : dk [] = 0) (n : PN) : drightP dk n = nright dk n := by
 unfold drightP nright knownP rpathP rvalueP rchildP rkidsP refers16
 rw [Znb dk h0, Ztf dk]
 have hall : (n.ks.all fun r => refersP dk r false) = n.ks.all (rrefP dk) := by congr 1; funext r; exact Zlw dk r
 rw [hall]
 have hp0 : n.p.length = 0 -> rightP n.p = true := fun h => by rw [List.eq_nil_of_length_eq_zero h]; rfl
 by_cases k1 : n.k = 1
 ·by_cases hp : rightP n.p = true
  ·by_cases hl : n.p.length <= 64
   ·by_cases hv : n.v.length <= 256
    ·cases hr : rrefP dk n.c
     ·simp [k1, hp]
     ·by_cases hv0 : n.v = []
      ·simp [k1, hp, hv0]
      ·have : 1 <= n.v.length := List.length_pos_iff.2 hv0
       by_cases hc : n.c.k = 0
       ·simp [k1, hp, hv0, hl, hv, this, hc, show ¬ 64 < n.p.length from by omega, show ¬ 256 < n.v.length from by omega]
       ·simp [k1, hp, hv0, hl, hv, this, hc]
    ·simp [k1, hv, show 256 < n.v.length from by omega]
   ·simp [k1, hl, show 64 < n.p.length from by omega]
  ·simp [k1, hp]
 ·by_cases k2 : n.k = 2
  ·by_cases hp : rightP n.p = true
   ·by_cases hl : n.p.length <= 64
    ·by_cases hp0' : n.p = []
     ·simp [k2, hp0']
     ·have h1 : 1 <= n.p.length := List.length_pos_iff.2 hp0'
      by_cases hv0 : n.v = []
      ·cases hr : rrefP dk n.c
       ·simp [k2, hp, hv0]
       ·simp [k2, hp, hv0, hl, hp0', h1, show ¬ 64 < n.p.length from by omega]
      ·simp [k2, hv0]
    ·simp [k2, hl, show 64 < n.p.length from by omega]
   ·simp [k2, hp]
  ·by_cases k3 : n.k = 3
   ·by_cases hp0' : n.p = []
    ·have hp : rightP n.p = true := hp0 (by rw [hp0']; rfl)
     rw [hp0'] at hp
     by_cases hv : n.v.length <= 256
     ·cases hr : rrefP dk n.c
      ·simp [k3, hp0']
      ·by_cases hc : n.c.k = 0
       ·by_cases h16 : n.ks.length = 16
        ·by_cases hvp : 0 < n.v.length
         ·simp only [k3, hp0', hp, hc, h16, hvp]
          simp [hv, show ¬ 256 < n.v.length from by omega]
          congr 1
          rw [Bool.eq_iff_iff]
          simp
          omega
         ·simp only [k3, hp0', hp, hc, h16, hvp]
          simp [hv, show ¬ 256 < n.v.length from by omega]
        ·simp [k3, hp0', h16]
       ·simp [k3, hp0', hc]
     ·simp [k3, hv, show 256 < n.v.length from by omega]
    ·simp [k3, hp0']
   ·simp [k1, k2, k3]
end Go.Proofs.YtdkpilgelgjieaaGreat
namespace Go.Proofs.YtdkpilgelgjieaaGreat
open Go.RowKit
set_option maxHeartbeats 2000000 in
theorem Zjv (K : Nat -> Prop) (x : RV) (r : PR) (w : World) (h : RefAt K w x r) :
  Calls Tryz.prog 89 #[.agg x.cells.toArray] w fun e w' => e = .returned (.bool (emptyP r)) /\ Below w.heap.size w w' := by
 have B := Zic w x h.len
 have HB := Hid.mk (below_new w (.cells x.cells.toArray 60))
 obtain ⟨res, hres⟩ : ∃ res, emptyP r = res := ⟨_, rfl⟩
 rw [hres]
 unfold emptyP at hres
 rw [<- h.1, <- h.2.1, h.2.2.2.2.l] at hres
 have HRES := Hid.mk hres
 have hl := h.len
 have hnb := h.2.2.2.2.2.1
 clear h hres
 go_enter Tryz.func89, Tryz.ntmps89
 go_upto_region 1 with fail
 refine gen_w (p := fun v => Code.wp _ _ _ _ v) (q := fun v => RBx w.heap.size v x /\ Below w.heap.size w v) ⟨B, HB.out⟩ ?_
 clear B HB
 rintro v ⟨B, hb⟩
 have HB := Hid.mk hb
 have HX := Hid.mk B
 have HLX := Hid.mk hl
 have c0 := B.c0
 have c1 := B.c33
 clear hb B hl
 by_cases h0 : x.k = 0
 ·by_cases hz : x.d = z32
  ·have HQ := Hid.mk (show (x.d == z32) = true from by simp [hz])
   have HZ := Hid.mk hz
   clear hz
   go_wp2_with (first | refine Zcg rfl _ rfl w.heap.size 1 rfl x.d HLX.out HX.out.digest ?_ | refine Ze4 rfl _ _ rfl x.d z32 rfl rfl HLX.out Zcf true HQ.out ?_)
   go_ret
   refine ⟨congrArg (fun b => Ending.returned (Value.bool b)) ?_, HB.out⟩
   rw [<- HRES.out, Bool.eq_iff_iff]
   first | (simp [h0, HZ.out]; done) | (simp [h0, HZ.out]; omega)
  ·have HQ := Hid.mk (show (x.d == z32) = false from by simp [hz])
   have HZ := Hid.mk hz
   clear hz
   go_wp2_with (first | refine Zcg rfl _ rfl w.heap.size 1 rfl x.d HLX.out HX.out.digest ?_ | refine Ze4 rfl _ _ rfl x.d z32 rfl rfl HLX.out Zcf false HQ.out ?_)
   go_ret
   refine ⟨congrArg (fun b => Ending.returned (Value.bool b)) ?_, HB.out⟩
   rw [<- HRES.out, Bool.eq_iff_iff]
   first | (simp [h0, HZ.out]; done) | (simp [h0, HZ.out]; omega)
 ·go_wp2_with fail
  go_ret
  refine ⟨congrArg (fun b => Ending.returned (Value.bool b)) ?_, HB.out⟩
  rw [<- HRES.out, Bool.eq_iff_iff]
  first | (simp [h0]; done) | (simp [h0]; omega)
def DDPost (w : World) (o : Option PN) : Ending -> World -> Prop := fun e w' => Below w.heap.size w w' ∧
 match o with
 | none => e = .returned (.tuple #[.agg nz.cells.toArray, .int .i64 50])
 | some n => ∃ y : NV, e = .returned (.tuple #[.agg y.cells.toArray, .int .i64 0]) /\ NodeAt (fun g => w.heap.size <= g) w' y n
def DDSaid (b : List Int) : Prop := ∀ (a : Option Addr) (n c : Nat) (w : World), Ag w a n c b -> n <= 140737488351232 -> Calls Tryz.prog 106 #[.slice a n c] w (DDPost w (ND b))
theorem Zyi {b : List Int} (hb : isB b) {w : World} {e : Ending} {w' : World} (h : DDPost w (ND b) e w') : Below w.heap.size w w' /\ ∃ y : NV, e = .returned (.tuple #[.agg y.cells.toArray, .int .i64 (if KD b = 0 then 50 else 0)]) /\ y.k = KD b /\ y.c.d.length = 32 := by
 obtain ⟨hb', hm⟩ := h
 refine ⟨hb', ?_⟩
 unfold KD
 cases ho : ND b with
 | none => rw [ho] at hm; exact ⟨nz, hm, rfl, rfl⟩
 | some n =>
  rw [ho] at hm
  obtain ⟨y, e1, hy⟩ := hm
  have h0 : ¬ kd (some n) = 0 := by
   have := Zny (Zl8 hb ho).1
   show ¬ n.k = 0
   omega
  rw [if_neg h0]
  exact ⟨y, e1, hy.k, hy.c.len⟩
theorem Znc {br : Bool} (dk : Int) : (decide (dk ≠ 0) && (!br || decide (dk = 3))) = if dk = 0 then false else if br = true then decide (dk = 3) else true := by
 cases br <;> by_cases h : dk = 0 <;> simp [h]
set_option maxHeartbeats 4000000 in
theorem Zjq (K : Nat -> Prop) (x : RV) (r : PR) (br : Bool) (w : World) (h : RefAt K w x r) (hd : r.i.length < 32 -> DDSaid r.i) :
  Calls Tryz.prog 90 #[.agg x.cells.toArray, .bool br] w fun e w' => e = .returned (.bool (refersP KD r br)) /\ Below w.heap.size w w' := by
 have B := Zic w x h.len
 have HB := Hid.mk (below_new w (.cells x.cells.toArray 60))
 have HE := Hid.mk (show ∀ v, Below w.heap.size w v -> Calls Tryz.prog 89 #[.agg x.cells.toArray] v fun e w' => e = .returned (.bool (emptyP r)) /\ Below v.heap.size v w' from fun v hv => Zjv K x r v (h.go (Keep.below hv)))
 have HD := Hid.mk (show x.n < 32 -> ∀ v, Below w.heap.size w v -> Calls Tryz.prog 106 #[.slice x.a x.n x.c] v (DDPost v (ND r.i)) from fun hx v hv => hd (by rw [h.2.2.2.2.l]; exact hx) _ _ _ v (h.2.2.2.2.1.at hv) h.2.2.2.2.2.1)
 have HIB := Hid.mk h.2.2.2.2.1.b
 obtain ⟨res, hres⟩ : ∃ res, refersP KD r br = res := ⟨_, rfl⟩
 obtain ⟨kr, hkr⟩ : ∃ kr, KD r.i = kr := ⟨_, rfl⟩
 obtain ⟨em, hem⟩ : ∃ em, emptyP r = em := ⟨_, rfl⟩
 rw [hres]
 rw [hem] at HE
 unfold refersP at hres
 rw [Znc, hkr, hem, <- h.1, <- h.2.1, h.2.2.2.2.l] at hres
 have HRES := Hid.mk hres
 have HKR := Hid.mk hkr
 have hl := h.len
 have hnb := h.2.2.2.2.2.1
 clear h hd hkr hres hem
 go_enter Tryz.func90, Tryz.ntmps90
 go_upto_region 1 with fail
 refine gen_w (p := fun v => Code.wp _ _ _ _ v) (q := fun v => RBx w.heap.size v x /\ Below w.heap.size w v) ⟨B, HB.out⟩ ?_
 clear B HB
 rintro v ⟨B, hb⟩
 have HB := Hid.mk hb
 have HX := Hid.mk B
 have HLX := Hid.mk hl
 have c0 := B.c0
 have c1 := B.c33
 clear hb B hl
 by_cases h0 : x.k = 0
 ·go_wp2_with (first | refine Za4 rfl _ rfl w.heap.size 0 rfl x HLX.out HX.out.all ?_)
  refine (HE.out v HB.out).mono ?_
  rintro e w1 ⟨rfl, hb1⟩
  have HB1 := Hid.mk (below_go HB.out hb1)
  clear hb1
  cases br <;> cases em
  all_goals go_wp2_with fail
  all_goals go_ret
  all_goals refine ⟨congrArg (fun b => Ending.returned (Value.bool b)) ?_, HB1.out⟩
  all_goals rw [<- HRES.out]
  all_goals simp [h0]
 ·by_cases h2 : x.k = 2
  ·go_wp2_with fail
   go_ret
   refine ⟨congrArg (fun b => Ending.returned (Value.bool b)) ?_, HB.out⟩
   rw [<- HRES.out, Bool.eq_iff_iff]
   first | (simp [h2]; done) | (simp [h2]; omega)
  ·by_cases h1 : x.k = 1
   ·by_cases h32 : x.n < 32
    ·have hi32 : ¬ (x.n : Int) ≥ 32 := by omega
     by_cases hz : x.d = z32
     ·have HQ := Hid.mk (show (!(x.d == z32)) = false from by simp [hz])
      have HZ := Hid.mk hz
      clear hz
      go_wp2_with (first | refine Zcg rfl _ rfl w.heap.size 1 rfl x.d HLX.out HX.out.digest ?_ | refine Ze3 rfl _ _ rfl x.d z32 rfl rfl HLX.out Zcf false HQ.out ?_)
      refine (HD.out h32 v HB.out).mono ?_
      intro e w1 hp
      obtain ⟨hb1, y, rfl, hyk, hyl⟩ := Zyi HIB.out hp
      rw [HKR.out] at hyk
      rw [HKR.out]
      have HB1 := Hid.mk (below_go HB.out hb1)
      have HS := Hid.mk (show (nz.cells.toArray : Array Value).size = y.cells.toArray.size from by rw [Zwj, List.size_toArray, NV.len hyl])
      have HI := Hid.mk (show (Tryz.prog.info? 104).map (·.size) = some y.cells.toArray.size from by rw [Zge, List.size_toArray, NV.len hyl])
      have HO := Hid.mk (all_oneCell_toArray y.one)
      have HYK := Hid.mk hyk
      have HYL := Hid.mk hyl
      clear hp hb1 hyk hyl HD HB c0 c1
      obtain ⟨er, her⟩ : ∃ er : Int, (if kr = 0 then (50 : Int) else 0) = er := ⟨_, rfl⟩
      rw [her]
      have HER := Hid.mk her
      clear her
      go_upto_region 10 with (first | refine wpList_store_row rfl 104 _ _ rfl _ y.cells.toArray rfl rfl 104 _ (heap_alloc_new w1 _) HI.out HS.out HO.out ?_)
      refine gen_w (p := fun v => Code.wp _ _ _ _ v) (q := fun v => NBx w1.heap.size v y /\ Below w.heap.size w v) ⟨⟨setRow_heap _ _ _ _ _ _ (heap_alloc_new w1 _), HYL.out⟩, Below.setRow (HB1.out.alloc HB1.out.size _) HB1.out.size _⟩ ?_
      rintro v2 ⟨B, hb⟩
      have d0 := B.c0
      rw [HYK.out] at d0
      have HB2 := Hid.mk hb
      clear B hb
      by_cases hk0 : kr = 0
      ·have her := HER.out
       rw [if_pos hk0] at her
       subst her
       go_wp2_with fail
       go_ret
       refine ⟨congrArg (fun b => Ending.returned (Value.bool b)) ?_, HB2.out⟩
       rw [<- HRES.out]
       simp [h1, hk0]
      ·have her := HER.out
       rw [if_neg hk0] at her
       subst her
       cases br
       ·go_wp2_with fail
        go_ret
        refine ⟨congrArg (fun b => Ending.returned (Value.bool b)) ?_, HB2.out⟩
        rw [<- HRES.out]
        simp [h1, hk0, HZ.out]
        omega
       ·by_cases hk3 : kr = 3
        ·go_wp2_with fail
         go_ret
         refine ⟨congrArg (fun b => Ending.returned (Value.bool b)) ?_, HB2.out⟩
         rw [<- HRES.out]
         simp [h1, hk3, HZ.out]
         omega
        ·go_wp2_with fail
         go_ret
         refine ⟨congrArg (fun b => Ending.returned (Value.bool b)) ?_, HB2.out⟩
         rw [<- HRES.out]
         simp [h1, hk3]
     ·have HQ := Hid.mk (show (!(x.d == z32)) = true from by simp [hz])
      have HZ := Hid.mk hz
      clear hz
      go_wp2_with (first | refine Zcg rfl _ rfl w.heap.size 1 rfl x.d HLX.out HX.out.digest ?_ | refine Ze3 rfl _ _ rfl x.d z32 rfl rfl HLX.out Zcf true HQ.out ?_)
      go_ret
      refine ⟨congrArg (fun b => Ending.returned (Value.bool b)) ?_, HB.out⟩
      rw [<- HRES.out]
      simp [h1, HZ.out]
    ·have hi32 : (x.n : Int) ≥ 32 := by omega
     go_wp2_with fail
     go_ret
     refine ⟨congrArg (fun b => Ending.returned (Value.bool b)) ?_, HB.out⟩
     rw [<- HRES.out]
     simp [h1, show 32 <= x.n from by omega]
   ·go_wp2_with fail
    go_ret
    refine ⟨congrArg (fun b => Ending.returned (Value.bool b)) ?_, HB.out⟩
    rw [<- HRES.out]
    simp [h0, h2, h1]
end Go.Proofs.YtdkpilgelgjieaaGreat
namespace Go.Proofs.YtdkpilgelgjieaaGreat.Ni
open Go.RowKit
set_option maxHeartbeats 400000 in
theorem rright_any (a : Option Addr) (n c : Nat) (b : List Int) (w : World) (h : Ag w a n c b) (hn : n <= 140737488355328) :
  Calls Tryz.prog 88 #[.slice a n c] w fun e w' => e = .returned (.bool (rightP b)) /\ w' = w := by
 have HL := Hid.mk h.l
 have HC : Hid (0 < n -> ∃ g off, a = some ⟨g, off, none⟩ /\ n <= c /\ c <= maxLen /\ ∀ j, j < n -> w.cell? ⟨g, off + j, none⟩ = some (.int .u8 (b.getD j 0))) := Hid.mk (ag_head h)
 have HB := Hid.mk h.b
 clear h
 obtain ⟨res, hres⟩ : ∃ r, rightP b = r := ⟨_, rfl⟩
 rw [hres]
 have HRES := Hid.mk hres
 clear hres
 go_enter Tryz.func88, Tryz.ntmps88
 go_wp2_with fail
 go_loopw [3] (fun i v => ∃ j : Nat, j <= n /\ i = .int .i64 j /\ (∀ i, i < j -> b.getD i 0 <= 15) /\ v = w) (fun i _ => n - (intOf i).toNat)
 case atStart => exact ⟨0, by omega, rfl, fun i hi => by omega, rfl⟩
 case round =>
  obtain ⟨j, hj, rfl, hle, rfl⟩ := hrel
  have HLE := Hid.mk hle
  clear hle
  by_cases hlt : j < n
  ·obtain ⟨g, off, rfl, hnc, hcm, hcs⟩ := HC.out (by omega)
   unfold maxLen at hcm
   have hcell := hcs j hlt
   have hx := HB.out _ (getD_mem (show j < b.length by have := HL.out; omega))
   have HX : Hid (b.getD j 0 > 15 -> rightP b = false) := Hid.mk (fun h => Zoe (by have := HL.out; omega) h)
   have HY : Hid (b.getD j 0 <= 15 -> ∀ i, i < j + 1 -> b.getD i 0 <= 15) := Hid.mk (fun h i hi => by
    by_cases e : i = j
    ·rw [e]; exact h
    ·exact HLE.out i (by omega))
   generalize b.getD j 0 = x at hcell hx HX HY
   obtain ⟨hx0, hx1⟩ := hx
   have hji : (j : Int) < n := by omega
   clear hcs
   by_cases h15 : x > 15
   ·have e : res = false := HRES.out.symm.trans (HX.out h15)
    subst e
    go_wp2_with fail
    go_ret
    exact ⟨rfl, rfl⟩
   ·have h15' : ¬ x > 15 := h15
    go_wp2_with fail
    exact ⟨⟨j + 1, by omega, by simp, HY.out (by omega), trivial⟩, by simp [intOf]; omega⟩
  ·have hji : ¬ (j : Int) < n := by omega
   have e : res = true := HRES.out.symm.trans (Zlt fun i hi => HLE.out i (by have := HL.out; omega))
   subst e
   go_wp2_with fail
   go_ret
   exact ⟨rfl, rfl⟩
end Go.Proofs.YtdkpilgelgjieaaGreat.Ni

/- What Refer, EmptyRoot and EmptyCode answer, the program's and the document's. -/
import Derived.Test.YtefhepcplempkaaGreatG11
import Derived.Test.YtefhepcplempkaaGreatG02
import Derived.Test.YtefhepcplempkaaGreatG17
import Derived.Test.YtefhepcplempkaaGreatG15
import Derived.Lib.SlBytesConst
set_option linter.unusedVariables false
set_option maxRecDepth 100000
namespace Go.Proofs.YtefhepcplempkaaGreat
open Go.RowKit
open Di (dref)
theorem Zmx (a : Option Addr) (n c : Nat) (b : List Int) (w : World) (h : Ag w a n c b) (hn : n <= 140737488351232) : Calls Tryz.prog 39 #[.slice a n c] w fun e w' => e = .returned (.agg (B8 (dref b))) /\ Below w.heap.size w w' :=
 Di.of_any a n c b w h.i h.l.symm h.b (by omega)
theorem Zng (a : Option Addr) (n c : Nat) (b : List Int) (w : World) (h : Ag w a n c b) (hn : n <= 140737488351232) : Calls Tryz.prog 41 #[.slice a n c] w fun e w' => e = .returned (.agg (B8 (dref b))) /\ Below w.heap.size w w' :=
 Di.rof_any a n c b w (h.i.inB h.nil) h.b (by rw [h.l]; exact hn)
theorem dref_len (b : List Int) : (dref b).length = 32 := Di.dref_len b
theorem Zt2 (b : List Int) : isB (dref b) := fun x hx => by
 unfold dref Di.dig at hx
 obtain ⟨i, _, rfl⟩ := List.mem_map.1 hx
 unfold Di.bt
 omega
end Go.Proofs.YtefhepcplempkaaGreat
namespace Go.Proofs.YtefhepcplempkaaGreat
open Go.RowKit
theorem Zpd {w : World} {g : Nat} {b : List Int} (h : Row g w b) (o : Nat) : w.frozen? ⟨g, o, none⟩ = false := frozen_of_row _ _ _ _ _ h
theorem Zd9 {P : Nat -> Prop} {w : World} {g n : Nat} {b : List Int} (h : Row g w b) (hl : b.length = n) (hb : isB b) (hn : n <= 140737488351232) (hP : P g) : LiesP P w (.mk false b []) ⟨false, some ⟨g, 0, none⟩, n, n, none, 0, 0⟩ :=
 liesP_eq.2 ⟨⟨rfl, row_ag (n := n) h hl hb (Nat.le_trans hn (by omega)), rfl, Nat.le_refl _, Nat.zero_le _, ⟨hn, Nat.zero_le _⟩, fun g' off e _ => by cases e; exact ⟨hP, Zpd h⟩⟩, Zbg⟩
theorem Zf6 (P : Nat -> Prop) (w : World) : LiesP P w t0 ⟨false, none, 0, 0, none, 0, 0⟩ :=
 liesP_eq.2 ⟨⟨rfl, ⟨.inl ⟨rfl, rfl⟩, fun _ => ⟨rfl, rfl⟩, rfl, fun x hx => by cases hx⟩, rfl, Nat.le_refl _, Nat.zero_le _, ⟨Nat.zero_le _, Nat.zero_le _⟩, fun g off e => by cases e⟩, Zbg⟩
structure Ri (w v : World) (x : RV) : Prop where
 row : v.heap[w.heap.size + 1]? = some (.cells #[.bool false, .slice none 0 0, .slice none 0 0] 109)
 bx : RBx w.heap.size v x
 bel : Below w.heap.size w v
 sz : w.heap.size + 2 <= v.heap.size
theorem Ri.go {w v v' : World} {x : RV} (h : Ri w v x) (hb : Below v.heap.size v v') : Ri w v' x := ⟨Below.row hb h.row, h.bx.go hb, below_go h.bel hb, Nat.le_trans h.sz hb.size⟩
theorem Zus (w : World) (x : RV) (hl : x.d.length = 32) : Ri w ((w.alloc (.cells x.cells.toArray 65)).alloc (.cells #[.bool false, .slice none 0 0, .slice none 0 0] 109)) x := by
 have s1 : (w.alloc (.cells x.cells.toArray 65)).heap.size = w.heap.size + 1 := by simp
 refine ⟨?_, (Zhq w x hl).go (below_new _ _), below_go (below_new w _) (below_new _ _), by simp⟩
 have := heap_alloc_new (w.alloc (.cells x.cells.toArray 65)) (.cells #[.bool false, .slice none 0 0, .slice none 0 0] 109)
 rwa [s1] at this
theorem Ri.x0 {w v : World} {x : RV} (h : Ri w v x) : v.cell? ⟨w.heap.size + 1, 0, none⟩ = some (.bool false) := by rw [cell_of_row _ _ _ _ _ _ h.row]; rfl
theorem Ri.x1 {w v : World} {x : RV} (h : Ri w v x) : v.cell? ⟨w.heap.size + 1, 1, none⟩ = some (.slice none 0 0) := by rw [cell_of_row _ _ _ _ _ _ h.row]; rfl
theorem Ri.x2 {w v : World} {x : RV} (h : Ri w v x) : v.cell? ⟨w.heap.size + 1, 2, none⟩ = some (.slice none 0 0) := by rw [cell_of_row _ _ _ _ _ _ h.row]; rfl
theorem Ri.xf {w v : World} {x : RV} (h : Ri w v x) : ∀ o, v.frozen? ⟨w.heap.size + 1, o, none⟩ = false := fun o => frozen_of_row _ _ _ _ _ h.row
def IPost (w : World) (t : T) : Ending -> World -> Prop := fun e w' => (∃ y : V, e = .returned (.agg #[.bool y.l, .slice y.ba y.bn y.bc, .slice y.ia y.m y.ic]) /\ LiesP (fun b => w.heap.size <= b) w' t y) /\ Below w.heap.size w w'
theorem Zcm {w v : World} {x : RV} {t : T} {y : V} (h : Ri w v x) (hy : LiesP (fun b => w.heap.size + 2 <= b) v t y) :
  IPost w t (.returned (.agg #[.bool y.l, .slice y.ba y.bn y.bc, .slice y.ia y.m y.ic])) (((v.setCell ⟨w.heap.size + 1, 0, none⟩ (.bool y.l)).setCell ⟨w.heap.size + 1, 1, none⟩ (.slice y.ba y.bn y.bc)).setCell ⟨w.heap.size + 1, 2, none⟩ (.slice y.ia y.m y.ic)) :=
 ⟨⟨y, rfl, Zap (fun b hb hlt => ⟨Zbp (by omega) _ _ _, by omega⟩) _ _ hy⟩, Za0 h.bel (by omega) _ _ _⟩
set_option maxHeartbeats 4000000 in
theorem Zhn (K : Nat -> Prop) (x : RV) (r : PR) (w : World) (h : RefAt K w x r) :
  Calls Tryz.prog 117 #[.agg x.cells.toArray] w (IPost w (refItemP r)) := by
 have HRI := Hid.mk (Zus w x h.len)
 have HH := Hid.mk h
 have HLX := Hid.mk h.len
 obtain ⟨res, hres⟩ : ∃ res, refItemP r = res := ⟨_, rfl⟩
 rw [hres]
 unfold refItemP at hres
 rw [<- h.1] at hres
 have HRES := Hid.mk hres
 clear h hres
 go_enter Tryz.func117, Tryz.ntmps117
 go_upto_region 1 with fail
 refine gen_w (p := fun v => Code.wp _ _ _ _ v) (q := fun v => Ri w v x) HRI.out ?_
 clear HRI
 intro v R0
 have c0 := R0.bx.c0
 have c33 := R0.bx.c33
 have HR0 := Hid.mk R0
 clear R0
 by_cases h1 : x.k = 1
 ·have hr := HRES.out
  rw [if_pos h1] at hr
  have HCD := Hid.mk (Zjp x.a x.n x.c r.i v (HH.out.2.2.2.2.1.at HR0.out.bel) HH.out.2.2.2.2.2.1)
  have HR := Hid.mk hr
  clear hr HRES
  go_wp2_with fail
  refine HCD.out.mono ?_
  intro e w1 hp
  obtain ⟨hb1, hp⟩ := hp
  have HR1 := Hid.mk (HR0.out.go hb1)
  have HS0 := Hid.mk HR0.out.sz
  have hr := HR.out
  cases hq : decP r.i with
  | bad er =>
   rw [hq] at hp hr
   have hr : t0 = res := hr
   subst hr
   obtain ⟨rfl, her⟩ := hp
   clear hb1 hq her
   go_upto_region 4 with fail
   refine gen_w (p := fun v => Code.wp _ _ _ _ v) (q := fun v => Ri w v x /\ B1 w1.heap.size v ⟨false, none, 0, 0, none, 0, 0⟩) ⟨HR1.out.go (below_new w1 _), Zcq w1 ⟨false, none, 0, 0, none, 0, 0⟩⟩ ?_
   rintro v2 ⟨R2, B2⟩
   have x0 := R2.x0
   have x1 := R2.x1
   have x2 := R2.x2
   have xf := R2.xf
   have d0 := B2.c0
   have d1 := B2.c1
   have d2 := B2.c2
   have HR2 := Hid.mk R2
   clear R2 B2 c0 c33
   go_wp2_with fail
   have hr := put3 HR2.out.row (.bool false) (.slice none 0 0) (.slice none 0 0)
   refine bodyPost_ret (results_cell_row Tryz.results117 _ _ (w.heap.size + 1) 109 _ (0, 0) _ rfl hr Tryz.underlying109 rfl (by kernel_rfl)) rfl ?_
   exact Zcm (y := ⟨false, none, 0, 0, none, 0, 0⟩) HR2.out (Zf6 _ _)
  | ok t =>
   rw [hq] at hp hr
   have hr : t = res := hr
   subst hr
   obtain ⟨y, rfl, hy⟩ := hp
   have HY := Hid.mk (show LiesP (fun b => w.heap.size + 2 <= b) w1 t y from Zap (fun b hb hlt => ⟨rfl, by have := HS0.out; omega⟩) _ _ hy)
   clear hb1 hq hy
   go_upto_region 4 with fail
   refine gen_w (p := fun v => Code.wp _ _ _ _ v) (q := fun v => Ri w v x /\ B1 w1.heap.size v y /\ LiesP (fun b => w.heap.size + 2 <= b) v t y) ⟨HR1.out.go (below_new w1 _), Zcq w1 _, Zap (fun b hb hlt => ⟨heap_alloc_old _ _ hlt, hb⟩) _ _ HY.out⟩ ?_
   rintro v2 ⟨R2, B2, L2⟩
   have x0 := R2.x0
   have x1 := R2.x1
   have x2 := R2.x2
   have xf := R2.xf
   have d0 := B2.c0
   have d1 := B2.c1
   have d2 := B2.c2
   have HR2 := Hid.mk R2
   have HL2 := Hid.mk L2
   clear R2 B2 L2 c0 c33
   go_wp2_with fail
   have hr := put3 HR2.out.row (.bool y.l) (.slice y.ba y.bn y.bc) (.slice y.ia y.m y.ic)
   refine bodyPost_ret (results_cell_row Tryz.results117 _ _ (w.heap.size + 1) 109 _ (0, 0) _ rfl hr Tryz.underlying109 rfl (by kernel_rfl)) rfl ?_
   exact Zcm HR2.out HL2.out
 ·by_cases h2 : x.k = 2
  ·have hr := HRES.out
   rw [if_neg h1, if_pos h2] at hr
   subst hr
   have hag : Ag v (some ⟨w.heap.size, 1, none⟩) 32 32 r.d := by
    have hd := HR0.out.bx.digest
    rw [HH.out.2.1] at hd
    refine ⟨.inr ⟨w.heap.size, 1, rfl, HH.out.2.2.2.1, by omega, by omega, by unfold maxLen; omega, fun j hj => ?_⟩, (fun e => by cases e), HH.out.2.2.2.1, HH.out.2.2.1⟩
    exact hd j _ (by rw [List.getElem?_map, List.getD, List.getElem?_eq_getElem hj]; rfl)
   have HTX := Hid.mk (Zc9 (some ⟨w.heap.size, 1, none⟩) 32 32 r.d v hag (by omega))
   have HS0 := Hid.mk HR0.out.sz
   have e1 : (x.k == 1) = false := by simp [h1]
   clear hag
   go_wp2_with fail
   refine HTX.out.mono ?_
   rintro e w1 ⟨rfl, hrow, hb1⟩
   have R1 := HR0.out.go hb1
   have x0 := R1.x0
   have x1 := R1.x1
   have x2 := R1.x2
   have xf := R1.xf
   have HR1 := Hid.mk R1
   have HY := Hid.mk (Zd9 (P := fun b => w.heap.size + 2 <= b) hrow HH.out.2.2.2.1 HH.out.2.2.1 (by omega) (by have := HS0.out; omega))
   clear hrow hb1 R1
   go_wp2_with fail
   have hr := put3 HR1.out.row (.bool false) (.slice (some ⟨v.heap.size + 1, 0, none⟩) 32 32) (.slice none 0 0)
   refine bodyPost_ret (results_cell_row Tryz.results117 _ _ (w.heap.size + 1) 109 _ (0, 0) _ rfl hr Tryz.underlying109 rfl (by kernel_rfl)) rfl ?_
   exact Zcm (y := ⟨false, some ⟨v.heap.size + 1, 0, none⟩, 32, 32, none, 0, 0⟩) HR1.out HY.out
  ·have hr := HRES.out
   rw [if_neg h1, if_neg h2] at hr
   subst hr
   have hag : Ag v none 0 0 [] := ⟨.inl ⟨rfl, rfl⟩, fun _ => ⟨rfl, rfl⟩, rfl, fun x hx => by cases hx⟩
   have HTX := Hid.mk (Zc9 none 0 0 [] v hag (by omega))
   have HS0 := Hid.mk HR0.out.sz
   have e1 : (x.k == 1) = false := by simp [h1]
   have e2 : (x.k == 2) = false := by simp [h2]
   clear hag
   go_wp2_with fail
   refine HTX.out.mono ?_
   rintro e w1 ⟨rfl, hrow, hb1⟩
   have R1 := HR0.out.go hb1
   have x0 := R1.x0
   have x1 := R1.x1
   have x2 := R1.x2
   have xf := R1.xf
   have HR1 := Hid.mk R1
   have HY := Hid.mk (Zd9 (P := fun b => w.heap.size + 2 <= b) (n := 0) hrow rfl (fun x hx => by cases hx) (by omega) (by have := HS0.out; omega))
   clear hrow hb1 R1
   go_wp2_with fail
   have hr := put3 HR1.out.row (.bool false) (.slice (some ⟨v.heap.size + 1, 0, none⟩) 0 0) (.slice none 0 0)
   refine bodyPost_ret (results_cell_row Tryz.results117 _ _ (w.heap.size + 1) 109 _ (0, 0) _ rfl hr Tryz.underlying109 rfl (by kernel_rfl)) rfl ?_
   exact Zcm (y := ⟨false, some ⟨v.heap.size + 1, 0, none⟩, 0, 0, none, 0, 0⟩) HR1.out HY.out
end Go.Proofs.YtefhepcplempkaaGreat
namespace Go.Proofs.YtefhepcplempkaaGreat
open Go.RowKit
open Di (dref)
theorem Zl9 {ds : List Int} (h : ds.length = 32) : (B8 z32).size = (B8 ds).size := by rw [B8_size, B8_size, h]; rfl
theorem Zc2 {ds : List Int} (h : ds.length = 32) : (Tryz.prog.info? 35).map (·.size) = some (B8 ds).size := by rw [Ztt, B8_size, h]
theorem B8_one (bs : List Int) : (B8 bs).all (·.oneCell') = true := all_oneCell_toArray (B8_one2 bs)
theorem Zx9 : encP t0 = ([128], 0) := by decide +kernel
set_option maxHeartbeats 2000000 in
theorem Zip (w : World) : Calls Tryz.prog 22 #[] w fun e w' => e = .returned (.agg (B8 (dref [128]))) /\ Below w.heap.size w w' := by
 have HOF := Hid.mk (fun (v : World) => Zng (some ⟨v.heap.size, 0, none⟩) 1 1 [128] (v.alloc (.cells #[.int .u8 128] 5)) (Ni.row_ag (show Ni.Row v.heap.size (v.alloc (.cells #[.int .u8 128] 5)) [128] from heap_alloc_new _ _) rfl (fun x hx => by simp at hx; omega) (show (1 : Nat) <= 9223372036854775807 by decide)) (by omega))
 have HDL := Hid.mk (dref_len [128])
 obtain ⟨ds, hds⟩ : ∃ ds, dref [128] = ds := ⟨_, rfl⟩
 rw [hds] at HOF HDL ⊢
 clear hds
 go_enter Tryz.func22, Tryz.ntmps22
 go_upto_region 1 with fail
 refine gen_w (p := fun v => Code.wp _ _ _ _ v) (q := fun v => v.heap[w.heap.size]? = some (.cells (B8 z32) 35) /\ Below w.heap.size w v) ⟨heap_alloc_new _ _, below_new _ _⟩ ?_
 rintro v ⟨hrow, hb⟩
 have HROW := Hid.mk hrow
 have HB := Hid.mk hb
 clear hrow hb
 go_wp2_with fail
 refine (HOF.out v).mono ?_
 rintro e w1 ⟨rfl, hb1⟩
 have HR1 := Hid.mk (Below.row (below_go (below_new v _) hb1) HROW.out)
 have HB1 := Hid.mk (below_go HB.out (below_go (below_new v _) hb1))
 clear hb1
 go_wp2_with (first | refine wpList_store_row rfl 35 _ _ rfl _ (B8 ds) rfl rfl 35 _ HR1.out (Zc2 HDL.out) (Zl9 HDL.out) (B8_one _) ?_)
 refine bodyPost_ret (results_cell_row Tryz.results22 _ _ w.heap.size 35 (B8 ds) (0, 0) _ rfl (setRow_heap _ _ _ _ _ _ HR1.out) Tryz.underlying35 rfl (Zc2 HDL.out)) rfl ?_
 exact ⟨rfl, Below.setRow HB1.out (Nat.le_refl _) _⟩
set_option maxHeartbeats 2000000 in
theorem Zkk (w : World) : Calls Tryz.prog 38 #[] w fun e w' => e = .returned (.agg (B8 (dref [128]))) /\ Below w.heap.size w w' := by
 have HDL := Hid.mk (dref_len [128])
 have HOF := Hid.mk (fun (v : World) (a : Option Addr) (c : Nat) (h : Ag v a 1 c [128]) => Zmx a 1 c [128] v h (by omega))
 obtain ⟨ds, hds⟩ : ∃ ds, dref [128] = ds := ⟨_, rfl⟩
 rw [hds] at HOF HDL ⊢
 clear hds
 have HTX := Hid.mk (fun v => Zc9 none 0 0 [] v ⟨.inl ⟨rfl, rfl⟩, fun _ => ⟨rfl, rfl⟩, rfl, fun x hx => by cases hx⟩ (by omega))
 go_enter Tryz.func38, Tryz.ntmps38
 go_upto_region 1 with fail
 refine gen_w (p := fun v => Code.wp _ _ _ _ v) (q := fun v => v.heap[w.heap.size]? = some (.cells (B8 z32) 35) /\ Below w.heap.size w v) ⟨heap_alloc_new _ _, below_new _ _⟩ ?_
 rintro v ⟨hrow, hb⟩
 have HROW := Hid.mk hrow
 have HB := Hid.mk hb
 clear hrow hb
 go_wp2_with fail
 refine (HTX.out v).mono ?_
 rintro e w1 ⟨rfl, hr1, hb1⟩
 have hlies := Zbd _ _ (Zd9 (P := fun _ => True) (n := 0) hr1 rfl (fun x hx => by cases hx) (by omega) trivial)
 have hen := Zga (.mk false [] []) ⟨false, some ⟨v.heap.size + 1, 0, none⟩, 0, 0, none, 0, 0⟩ w1 hlies
 rw [show encP (.mk false [] []) = ([128], 0) from Zx9] at hen
 have HEN := Hid.mk hen
 have HB1 := Hid.mk (below_go HB.out hb1)
 have HR1 := Hid.mk (Below.row hb1 HROW.out)
 clear hr1 hb1 hlies hen HROW HB
 go_wp2_with fail
 refine HEN.out.mono ?_
 rintro e w2 ⟨⟨a, m, c, rfl, hag, -⟩, hb2⟩
 have hm : m = 1 := hag.l.symm
 subst hm
 have HO2 := Hid.mk (HOF.out w2 a c hag)
 have HB2 := Hid.mk (below_go HB1.out hb2)
 have HR2 := Hid.mk (Below.row hb2 HR1.out)
 clear hag hb2
 go_wp2_with fail
 refine HO2.out.mono ?_
 rintro e w3 ⟨rfl, hb3⟩
 have HR3 := Hid.mk (Below.row hb3 HR2.out)
 have HB3 := Hid.mk (below_go HB2.out hb3)
 clear hb3
 go_wp2_with (first | refine wpList_store_row rfl 35 _ _ rfl _ (B8 ds) rfl rfl 35 _ HR3.out (Zc2 HDL.out) (Zl9 HDL.out) (B8_one _) ?_)
 refine bodyPost_ret (results_cell_row Tryz.results38 _ _ w.heap.size 35 (B8 ds) (0, 0) _ rfl (setRow_heap _ _ _ _ _ _ HR3.out) Tryz.underlying35 rfl (Zc2 HDL.out)) rfl ?_
 exact ⟨rfl, Below.setRow HB3.out (Nat.le_refl _) _⟩
end Go.Proofs.YtefhepcplempkaaGreat
namespace Go.Proofs.YtefhepcplempkaaGreat
open Go.RowKit
open Tr
open Di (dref)
theorem Zqk {fn : Func} {p : Tmp} {f : Nat -> Value} (h : fn.results = #[.cell p 35]) (w : World) (g : Nat) (ds : List Int) (hl : ds.length = 32) (hp : f p = .pointer (some ⟨g, 0, none⟩)) (hg : Rw g w (B8 ds) 35) : (resF f fn.results).run Tryz.prog w = .ok (.agg (B8 ds)) w := by
 have := run_loadVar_row (P := Tryz.prog) w g 35 35 _ _ _ hg Tryz.underlying35 rfl (Zc2 hl)
 unfold resF
 rw [h]
 simp [hp, this, asAddr]
theorem Zkm {w1 w2 : World} {g : Nat} {x : Int} (hx : 0 <= x /\ x < 256) (hn : New w1 w2 g #[.int .u8 x] 5) {K : Nat -> Prop} (hK : ∀ b, w1.heap.size <= b -> K b) : ∃ w3, (∀ (ρ : Operand -> Value) (o : Oper) (y : Operand), o.op = .convert 23 23 y -> ρ y = .slice (some ⟨g, 0, none⟩) 1 1 -> (execOp ρ o).run Tryz.prog w2 = .ok (.value (.slice (some ⟨g, 0, none⟩) 1 1)) w3) /\ Below w1.heap.size w1 w3 /\ Sk K w3 (some ⟨g, 0, none⟩) 1 1 [x] := by
 obtain ⟨rfl, rfl⟩ := hn
 refine ⟨w1.alloc (.cells #[.int .u8 x] 5 (1, 2)), ?_, (Below.refl _ _).alloc (Nat.le_refl _) _, ?_⟩
 ·intro ρ o y ho hy
  have := Lib.run_convert_bytes_const (P := Tryz.prog) w1 23 5 #[.int .u8 x] 1 1 Tryz.underlying23 Tryz.underlying5
  unfold execOp
  simp only [ho, hy, Sem.run_bind, this, Result.andThen_ok, Sem.run_pure]
  rfl
 ·refine ⟨⟨.inr ⟨w1.heap.size, 0, rfl, rfl, by omega, by omega, by unfold maxLen; omega, fun j hj => ?_⟩, (fun e => by cases e), rfl, fun y hy => by rw [List.mem_singleton.1 hy]; exact hx⟩, fun y hy _ => ?_⟩
  ·have : j = 0 := by simpa using hj
   subst this
   rw [cell_of_row _ _ _ _ _ _ (heap_alloc_new w1 _)]; rfl
  ·cases hy
   exact hK _ (Nat.le_refl _)
theorem Tri.lt {K : Nat -> Prop} {w : World} {g : Nat} {t : Tr} (h : Tri K w g t) : g < w.heap.size := by
 obtain ⟨⟨v, h1, _⟩, _⟩ := h
 exact lt_of_get h1
def putT (t : Tr) (k x : List Int) : Tr := if k.length <= 32 /\ 0 < x.length /\ x.length <= 256 then put t (Ni.nib k) x else t
def putE (k x : List Int) : Int := if k.length <= 32 then (if 0 < x.length /\ x.length <= 256 then 0 else 71) else 70
def delT (t : Tr) (k : List Int) : Tr := if k.length <= 32 /\ Tr.get t (Ni.nib k) ≠ [] then del t (Ni.nib k) else t
end Go.Proofs.YtefhepcplempkaaGreat
namespace Go.Proofs.YtefhepcplempkaaGreat
open Go.RowKit
open Tr
theorem TA.old {K : Nat -> Prop} {w : World} : ∀ {t : Tr} {v : Value}, TA K w t v -> TA (fun b => b < w.heap.size) w t v := by
 have hs : ∀ {a : Option Addr} {n c : Nat} {bs : List Int}, Sk K w a n c bs -> Sk (fun b => b < w.heap.size) w a n c bs := fun h => ⟨h.ag, fun x hx hn => h.old hx hn⟩
 intro t
 induction t with
 | no => intro v h; exact h
 | leaf p x => rintro v ⟨a, n, c, a', n', c', h1, h2, h3, h4⟩; exact ⟨a, n, c, a', n', c', h1, hs h2, hs h3, h4⟩
 | ext p t ih => rintro v ⟨a, n, c, u, h1, h2, h3⟩; exact ⟨a, n, c, u, h1, hs h2, ih h3⟩
 | br k x ih => rintro v ⟨vs, a, n, c, h1, h2, h3, h4⟩; exact ⟨vs, a, n, c, h1, fun i hi => ih i (h2 i hi), hs h3, h4⟩
theorem TA.mono {K K' : Nat -> Prop} {w : World} (hK : ∀ b, K b -> K' b) : ∀ {t : Tr} {v : Value}, TA K w t v -> TA K' w t v := by
 intro t
 induction t with
 | no => intro v h; exact h
 | leaf p x => rintro v ⟨a, n, c, a', n', c', h1, h2, h3, h4⟩; exact ⟨a, n, c, a', n', c', h1, h2.mono hK, h3.mono hK, h4⟩
 | ext p t ih => rintro v ⟨a, n, c, u, h1, h2, h3⟩; exact ⟨a, n, c, u, h1, h2.mono hK, ih h3⟩
 | br k x ih => rintro v ⟨vs, a, n, c, h1, h2, h3, h4⟩; exact ⟨vs, a, n, c, h1, fun i hi => ih i (h2 i hi), h3.mono hK, h4⟩
theorem Sk.tou {K : Nat -> Prop} {w w' : World} {g : Nat} {a : Option Addr} {n c : Nat} {bs : List Int} (h : Sk K w a n c bs) (t : Touch g w w') (hg : ¬ K g) : Sk K w' a n c bs := by
 refine ⟨⟨?_, h.ag.nil, h.ag.l, h.ag.b⟩, h.k⟩
 rcases h.ag.i with h1 | ⟨gb, off, h1, h2, h3, h4, h5, h7⟩
 ·exact .inl h1
 ·refine .inr ⟨gb, off, h1, h2, h3, h4, h5, fun j hj => ?_⟩
  rw [<- h7 j hj]
  have hk := h.k _ h1 h3
  exact World.cell?_of_block (t.block gb (block_lt_of_cell (h7 j hj)) (fun e => hg (e ▸ hk)))
theorem Tri.mono {K K' : Nat -> Prop} {w : World} {g : Nat} {t : Tr} (h : Tri K w g t) (hK : ∀ b, K b -> K' b) : Tri K' w g t := by
 obtain ⟨⟨v, h1, h2⟩, h3⟩ := h
 exact ⟨⟨v, h1, h2.mono hK⟩, h3⟩
theorem Tri.old {K : Nat -> Prop} {w : World} {g : Nat} {t : Tr} (h : Tri K w g t) : Tri (fun b => b < w.heap.size) w g t := by
 obtain ⟨⟨v, h1, h2⟩, h3⟩ := h
 exact ⟨⟨v, h1, h2.old⟩, h3⟩
end Go.Proofs.YtefhepcplempkaaGreat

/- What List answers of things that lie in memory; an item appended to a row of them. -/
import Derived.Test.YtdkpilgelgjieaaGreatG15
import Derived.Test.YtdkpilgelgjieaaGreatG20
import Derived.Test.YtdkpilgelgjieaaGreatG21
import Derived.Test.YtdkpilgelgjieaaGreatG16
set_option linter.unusedVariables false
set_option maxRecDepth 100000
namespace Go.Proofs.YtdkpilgelgjieaaGreat
open Go.RowKit
theorem V.ext {a b : V} (h0 : Value.bool a.l = .bool b.l) (h1 : Value.slice a.ba a.bn a.bc = .slice b.ba b.bn b.bc) (h2 : Value.slice a.ia a.m a.ic = .slice b.ia b.m b.ic) : a = b := by
 cases a; cases b
 cases h0; cases h1; cases h2
 rfl
theorem Zfb {P : Nat -> Prop} {w : World} {g off : Nat} (hP : P g) : ∀ {ts : List T} {k : Nat}, (∀ (i : Nat) (t : T), ts[i]? = some t -> ∃ y : V, w.cell? ⟨g, off + (k + i) * 3, none⟩ = some (.bool y.l) /\ w.cell? ⟨g, off + (k + i) * 3 + 1, none⟩ = some (.slice y.ba y.bn y.bc) /\ w.cell? ⟨g, off + (k + i) * 3 + 2, none⟩ = some (.slice y.ia y.m y.ic) /\ LiesP P w t y) -> LiesPAll P w ts (some ⟨g, off, none⟩) k
 | [], _, _ => Zbk
 | t :: r, k, h => by
  obtain ⟨y, h0, h1, h2, h3⟩ := h 0 t rfl
  refine liesPAll_cons.2 ⟨⟨g, off, y, ⟨rfl, hP⟩, h0, h1, h2, h3⟩, Zfb hP fun i u hu => ?_⟩
  obtain ⟨z, z0, z1, z2, z3⟩ := h (i + 1) u (by simpa using hu)
  rw [show k + (i + 1) = k + 1 + i from by omega] at z0 z1 z2
  exact ⟨z, z0, z1, z2, z3⟩
theorem Zis (P : Nat -> Prop) (a : Option Addr) (m c : Nat) (ts : List T) (hm : m = ts.length /\ m <= c /\ c <= maxLen /\ m <= 1000) (w : World) (hall : LiesPAll P w ts a 0) (hnil : a = none -> c = 0) (hP : ∀ b, w.heap.size <= b -> P b) :
  Calls Tryz.prog 102 #[.slice a m c] w fun e w' => (∃ y : V, e = .returned (.agg #[.bool y.l, .slice y.ba y.bn y.bc, .slice y.ia y.m y.ic]) /\ LiesP P w' (.mk true [] ts) y) /\ Below w.heap.size w w' := by
 have hall0 : LiesAll w ts a 0 := Zd4 (fun t _ x h => Zbg t x h) hall
 refine (Zu6 a m c ts ⟨hm.1, hm.2.1, hm.2.2.1, by omega⟩ w hall0 (by omega) hnil).mono ?_
 rintro e w' ⟨ys, hyl, rfl, hrow, hat, hb⟩
 refine ⟨⟨⟨true, none, 0, 0, some ⟨w.heap.size + 1, 0, none⟩, m, m⟩, rfl, ?_⟩, hb⟩
 refine liesP_eq.2 ⟨⟨rfl, ⟨.inl ⟨rfl, rfl⟩, fun _ => ⟨rfl, rfl⟩, rfl, fun x hx => by cases hx⟩, hm.1, Nat.le_refl _, by show m <= maxLen; unfold maxLen; omega, ⟨Nat.zero_le _, by show m <= _; omega⟩, fun g off e => by cases e⟩, Zfb (hP _ (by omega)) fun i t ht => ?_⟩
 have hi : i < ys.length := by rw [hyl, hm.1]; exact (List.getElem?_eq_some_iff.1 ht).1
 obtain ⟨g, off, u, A⟩ := hat i ys[i] (List.getElem?_eq_getElem hi)
 obtain ⟨g', off', y', A'⟩ := Zbu hall i t ht
 rw [Nat.zero_add] at A'
 have e := A.ha
 rw [A'.ha] at e
 cases e
 have hy : ys[i] = y' := V.ext (Option.some.inj (A.c0.symm.trans A'.c0)) (Option.some.inj (A.c1.symm.trans A'.c1)) (Option.some.inj (A.c2.symm.trans A'.c2))
 have hc : ∀ j u, (V.cells ys[i])[j]? = some u -> w'.cell? ⟨w.heap.size + 1, i * 3 + j, none⟩ = some u := fun j u hu => by
  rw [cell_of_row _ _ _ _ _ _ hrow, List.getElem?_toArray]
  have e : ys = ys.take i ++ ys[i] :: ys.drop (i + 1) := by rw [<- List.drop_eq_getElem_cons hi, List.take_append_drop]
  have hl : (ys.take i).length = i := by rw [List.length_take]; omega
  have hf := Zdd (ys.take i) ys[i] (ys.drop (i + 1)) j u hu
  rw [hl, <- e] at hf
  exact hf
 refine ⟨ys[i], ?_, ?_, ?_, ?_⟩
 ·have := hc 0 _ rfl
  rwa [show i * 3 + 0 = 0 + (0 + i) * 3 from by omega] at this
 ·have := hc 1 _ rfl
  rwa [show i * 3 + 1 = 0 + (0 + i) * 3 + 1 from by omega] at this
 ·have := hc 2 _ rfl
  rwa [show i * 3 + 2 = 0 + (0 + i) * 3 + 2 from by omega] at this
 ·rw [hy]; exact Zak (fun b hb' hlt => ⟨hb.block b hlt, hb'⟩) t y' A'.li
theorem Zh2 {w wr w1 : World} {it : Value} {ys : List V} {ts : List T} {y : V} {t : T} (hown : OwnI wr w.heap.size it ys) (hall : AllP (fun b => w.heap.size <= b /\ it.ownBlock ≠ some b) wr ts ys) (hbel : Below w.heap.size w wr) (hb1 : Below wr.heap.size wr w1)
  (hy : LiesP (fun b => wr.heap.size <= b) w1 t y) (hlen : ys.length <= 1000000000) (ty : TypeId) :
  ∃ v' w3, (Builtin.append_ #[92, 92] ty #[it, .slice (some ⟨w1.heap.size, 0, none⟩) 1 1]).run Tryz.prog (w1.alloc (.cells #[.bool y.l, .slice y.ba y.bn y.bc, .slice y.ia y.m y.ic] 94)) = .ok v' w3 ∧
   OwnI w3 w.heap.size v' (ys ++ [y]) /\ AllP (fun b => w.heap.size <= b /\ v'.ownBlock ≠ some b) w3 (ts ++ [t]) (ys ++ [y]) /\ Below w.heap.size w w3 /\ (∀ b, b < w1.heap.size -> it.ownBlock ≠ some b -> w3.heap[b]? = w1.heap[b]?) /\ w1.heap.size <= w3.heap.size := by
 obtain ⟨Y, hY⟩ : ∃ Y : Obj, Obj.cells #[.bool y.l, .slice y.ba y.bn y.bc, .slice y.ia y.m y.ic] 94 = Y := ⟨_, rfl⟩
 rw [hY]
 have hs2 : (w1.alloc Y).heap.size = w1.heap.size + 1 := by simp
 have hb2 : Below wr.heap.size wr (w1.alloc Y) := hb1.alloc hb1.size _
 have hz := hbel.size
 have hz1 := hb1.size
 have hblk : (w1.alloc Y).heap[w1.heap.size]? = some Y := heap_alloc_new w1 Y
 have hnews : ∀ j u, (V.cells y)[j]? = some u -> (w1.alloc Y).cell? ((⟨w1.heap.size, 0, none⟩ : Addr).add j) = some u := by
  intro j u hu
  rw [Zax, Nat.zero_add]
  rw [<- hY] at hblk ⊢
  rw [cell_of_row _ _ _ _ _ _ hblk]
  simpa [V.cells] using hu
 obtain ⟨v', w3, hrun, hown3, hgr, hown4⟩ := Zhq (Zca hown fun g _ hg => hb2.block g hg) y _ 1 hnews (by omega) hlen ty
 have hfar : ∀ b, b < w1.heap.size + 1 -> it.ownBlock ≠ some b -> w3.heap[b]? = (w1.alloc Y).heap[b]? := fun b hb hne => hgr.block b (by rw [hs2]; exact hb) (fun h => hne h.symm)
 have hit : ∀ g, it.ownBlock = some g -> g < wr.heap.size := fun g hg => (Zdq hown hg).2
 have hv' : ∀ b, b < w1.heap.size -> it.ownBlock ≠ some b -> v'.ownBlock ≠ some b := fun b hb hne h => by
  rcases hown4 with h4 | h4
  ·exact hne (h4.symm.trans h)
  ·rw [h4, hs2] at h; cases h; omega
 refine ⟨v', w3, hrun, hown3, AllP.snoc ?_ (hall.mono fun b hb hlt => ⟨?_, hb.1, hv' b (by omega) hb.2⟩), ?_, fun b hb hne => ?_, by have := hgr.size; omega⟩
 ·refine Zak (fun b hb hlt => ⟨?_, by omega, ?_⟩) t y hy
  ·have hne : it.ownBlock ≠ some b := fun h => by have := hit b h; omega
   rw [hfar b (by omega) hne, Below.heap_alloc _ _ _ hlt]
  ·exact hv' b hlt (fun h => by have := hit b h; omega)
 ·rw [hfar b (by omega) hb.2]
  exact hb2.block b hlt
 ·refine hbel.trans ⟨hgr.os.trans hb2.os, hgr.tape.trans hb2.tape, hgr.output.trans hb2.output, Nat.le_trans hb2.size hgr.size, fun b hb => ?_⟩
  rw [hfar b (by omega) (fun h => by have := (Zdq hown h).1; omega)]
  exact hb2.block b (by omega)
 ·rw [hfar b (by omega) hne, Below.heap_alloc _ _ _ hb]
structure Nn (w v : World) (x : NV) : Prop where
 row : v.heap[w.heap.size + 1]? = some (.cells #[.bool false, .slice none 0 0, .slice none 0 0] 94)
 bx : NBx w.heap.size v x
 bel : Below w.heap.size w v
 sz : w.heap.size + 2 <= v.heap.size
theorem Nn.go {w v v' : World} {x : NV} (h : Nn w v x) (hb : Below v.heap.size v v') : Nn w v' x := ⟨Below.row hb h.row, h.bx.go hb, below_go h.bel hb, Nat.le_trans h.sz hb.size⟩
theorem Zwk (w : World) (x : NV) (hl : x.c.d.length = 32) : Nn w ((w.alloc (.cells x.cells.toArray 104)).alloc (.cells #[.bool false, .slice none 0 0, .slice none 0 0] 94)) x := by
 have s1 : (w.alloc (.cells x.cells.toArray 104)).heap.size = w.heap.size + 1 := by simp
 refine ⟨?_, (Zcw w x hl).go (below_new _ _), below_go (below_new w _) (below_new _ _), by simp⟩
 have := heap_alloc_new (w.alloc (.cells x.cells.toArray 104)) (.cells #[.bool false, .slice none 0 0, .slice none 0 0] 94)
 rwa [s1] at this
theorem Nn.x0 {w v : World} {x : NV} (h : Nn w v x) : v.cell? ⟨w.heap.size + 1, 0, none⟩ = some (.bool false) := by rw [cell_of_row _ _ _ _ _ _ h.row]; rfl
theorem Nn.x1 {w v : World} {x : NV} (h : Nn w v x) : v.cell? ⟨w.heap.size + 1, 1, none⟩ = some (.slice none 0 0) := by rw [cell_of_row _ _ _ _ _ _ h.row]; rfl
theorem Nn.x2 {w v : World} {x : NV} (h : Nn w v x) : v.cell? ⟨w.heap.size + 1, 2, none⟩ = some (.slice none 0 0) := by rw [cell_of_row _ _ _ _ _ _ h.row]; rfl
theorem Nn.xf {w v : World} {x : NV} (h : Nn w v x) : ∀ o, v.frozen? ⟨w.heap.size + 1, o, none⟩ = false := fun o => frozen_of_row _ _ _ _ _ h.row
theorem Zet {w v : World} {x : NV} {t : T} {y : V} (h : Nn w v x) (hy : LiesP (fun b => w.heap.size + 2 <= b) v t y) :
  IPost w t (.returned (.agg #[.bool y.l, .slice y.ba y.bn y.bc, .slice y.ia y.m y.ic])) (((v.setCell ⟨w.heap.size + 1, 0, none⟩ (.bool y.l)).setCell ⟨w.heap.size + 1, 1, none⟩ (.slice y.ba y.bn y.bc)).setCell ⟨w.heap.size + 1, 2, none⟩ (.slice y.ia y.m y.ic)) :=
 ⟨⟨y, rfl, Zak (fun b hb hlt => ⟨Zbv (by omega) _ _ _, by omega⟩) _ _ hy⟩, Za0 h.bel (by omega) _ _ _⟩
theorem Zqw {base : Nat} {u : World} {it : Value} {ts : List T} {ys : List V} (hown : OwnI u base it ys) (hall : AllP (fun b => base <= b /\ it.ownBlock ≠ some b) u ts ys) : ∃ ia ic, it = .slice ia ts.length ic /\ ts.length <= ic /\ ic <= maxLen /\ LiesPAll (fun b => base <= b) u ts ia 0 :=
 Zkx (P := fun b => base <= b) hown (hall.mono fun b hb _ => ⟨rfl, hb.1⟩) (fun g hg => World.ownsRow.lt hown g hg |>.1)
set_option maxHeartbeats 8000000 in
theorem Zjd (K : Nat -> Prop) (x : NV) (n : PN) (w : World) (h : NodeAt K w x n) (hks : n.ks.length <= 100) :
  Calls Tryz.prog 100 #[.agg x.cells.toArray] w (IPost w (.mk true [] (n.ks.map refItemP ++ [.mk false n.v []]))) := by
 have HNN := Hid.mk (Zwk w x h.c.len)
 have HH := Hid.mk h
 obtain ⟨hm1, hm2, hm3, hm4, hm5⟩ := h.m
 unfold maxLen at hm3
 have HM1 := Hid.mk hm1
 have hkn : x.kn <= 100 := by rw [hm1]; exact hks
 obtain ⟨ka, hka⟩ : ∃ ka, x.ka = ka := ⟨_, rfl⟩
 have hks0 := h.ks
 rw [hka] at hks0
 have HKS := Hid.mk hks0
 have HKA := Hid.mk hka
 clear h hm1 hm4 hm5 hka hks0 hks
 go_enter Tryz.func100, Tryz.ntmps100
 go_upto_region 1 with fail
 refine gen_w (p := fun v => Code.wp _ _ _ _ v) (q := fun v => Nn w v x) HNN.out ?_
 clear HNN
 intro v N0
 have c37 := N0.bx.c37
 rw [HKA.out] at c37
 have HN0 := Hid.mk N0
 clear N0
 go_wp2_with fail
 go_loopw [3, 9] (fun it s9 u => ∃ (j : Nat) (ys : List V), j <= x.kn /\ s9 = .int .i64 j /\ ys.length = j /\ OwnI u v.heap.size it ys /\ AllP (fun b => v.heap.size <= b /\ it.ownBlock ≠ some b) u ((n.ks.take j).map refItemP) ys /\ Below v.heap.size v u) (fun _ s9 _ => x.kn - (intOf s9).toNat)
 case atStart => exact ⟨0, [], by omega, rfl, rfl, World.ownsRow_nil _ _ _ _, trivial, Below.refl _ _⟩
 case round =>
  obtain ⟨j, ys, hj, rfl, hyl, hown, hall, hbel⟩ := hrel
  have HYL := Hid.mk hyl
  have HOWN := Hid.mk hown
  have HALL := Hid.mk hall
  have HBEL := Hid.mk hbel
  clear hyl hown hall hbel
  by_cases hlt : j < x.kn
  ·have hji : (j : Int) < x.kn := by omega
   obtain ⟨r, hr⟩ : ∃ r, n.ks[j]? = some r := ⟨_, List.getElem?_eq_getElem (by have := HM1.out; omega)⟩
   obtain ⟨g, off, y, hka, _, hrg, hy⟩ := HKS.out j r hr
   subst hka
   have HRG := Hid.mk (Zco hrg (fun hl => (below_go HN0.out.bel HBEL.out).block g hl))
   have HL := Hid.mk hy.len
   have HY := Hid.mk hy
   have HR := Hid.mk hr
   clear hrg hy hr
   go_upto_region 5 with (first | refine Za4 rfl _ rfl g (off + j * 34) rfl y HL.out HRG.out ?_ | refine wpList_store_row rfl 60 _ _ rfl _ y.cells.toArray rfl rfl 60 _ (heap_alloc_new _ _) (Zb1 HL.out) (Zbr HL.out) (all_oneCell_toArray (RV.one _)) ?_)
   refine gen_w (p := fun v => Code.wp _ _ _ _ v) (q := fun u => RBx wr.heap.size u y /\ Below wr.heap.size wr u) ⟨⟨setRow_heap _ _ _ _ _ _ (heap_alloc_new _ _), HL.out⟩, Below.setRow (below_new wr _) (Nat.le_refl _) _⟩ ?_
   rintro u1 ⟨B1', b1⟩
   have HX1 := Hid.mk B1'
   have HB1 := Hid.mk b1
   have HRF := Hid.mk (Zh9 K y r u1 (HY.out.go (Keep.below (below_go HN0.out.bel (below_go HBEL.out b1)))))
   clear B1' b1
   go_wp2_with (first | refine Za4 rfl _ rfl wr.heap.size 0 rfl y HL.out HX1.out.all ?_)
   refine HRF.out.mono ?_
   rintro e w2 ⟨⟨z, rfl, hz⟩, hb2⟩
   have hz' : LiesP (fun b => wr.heap.size <= b) w2 (refItemP r) z := Zak (fun b hb hlt => ⟨rfl, Nat.le_trans HB1.out.size hb⟩) _ _ hz
   obtain ⟨v', w3, hrun, hown3, hall3, hbel3, hfar, hsz3⟩ := Zh2 HOWN.out HALL.out HBEL.out (below_go HB1.out hb2) hz' (by have := HYL.out; omega) 92
   have HRUN := Hid.mk hrun
   have HO3 := Hid.mk hown3
   have HA3 := Hid.mk (show AllP (fun b => v.heap.size <= b /\ v'.ownBlock ≠ some b) w3 ((n.ks.take (j + 1)).map refItemP) (ys ++ [z]) from by rw [Zbw HR.out, List.map_append]; exact hall3)
   have HB3 := Hid.mk hbel3
   clear hz hz' hb2 hrun hown3 hall3 hbel3 hfar hsz3
   go_wp2_with (first | refine Zcc rfl _ _ rfl _ _ rfl rfl HRUN.out ?_)
   go_roundw
   case rel => exact ⟨j + 1, ys ++ [z], by omega, by simp, by have := HYL.out; simp; omega, HO3.out, HA3.out, HB3.out⟩
   case measure => simp [intOf]; omega
  ·have hji : ¬ (j : Int) < x.kn := by omega
   have hjk : j = x.kn := by omega
   have hall := HALL.out
   rw [hjk, HM1.out, List.take_length] at hall
   have HA := Hid.mk hall
   have NR' := HN0.out.go HBEL.out
   have c2 := NR'.bx.c2
   have HNR := Hid.mk NR'
   have hv := HH.out.v
   have HTX := Hid.mk (Zdb x.va x.vn x.vc n.v wr (hv.1.at (below_go HN0.out.bel HBEL.out)) hv.2.1)
   have hvl := hv.l
   have hvn := hv.2.1
   have hvb := hv.1.b
   have HVL := Hid.mk hvl
   have HVB := Hid.mk hvb
   clear hjk hall NR' hv hvl hvb
   go_wp2_with fail
   refine HTX.out.mono ?_
   rintro e w2 ⟨rfl, hrow, hb2⟩
   have hz' : LiesP (fun b => wr.heap.size <= b) w2 (.mk false n.v []) ⟨false, some ⟨wr.heap.size + 1, 0, none⟩, x.vn, x.vn, none, 0, 0⟩ := Zee hrow HVL.out HVB.out hvn (by omega)
   obtain ⟨v', w3, hrun, hown3, hall3, hbel3, hfar, hsz3⟩ := Zh2 HOWN.out HA.out HBEL.out hb2 hz' (by have := HYL.out; omega) 92
   obtain ⟨ia, ic, rfl, hic1, hic2, hlp⟩ := Zqw hown3 hall3
   have hml : (n.ks.map refItemP ++ [T.mk false n.v []]).length = x.kn + 1 := by have := HM1.out; simp; omega
   rw [hml] at hrun hic1
   simp only at hrun
   have HRUN := Hid.mk hrun
   have HN3 := Hid.mk (show Nn w w3 x from HN0.out.go hbel3)
   have HML := Hid.mk hml
   have HLP := Hid.mk hlp
   have HS0 := Hid.mk HN0.out.sz
   have HS3 := Hid.mk hbel3.size
   have HII := Hid.mk (show ia = none -> ic = 0 from fun e => by
    subst e
    rcases hown3.2 with ⟨h1, h2⟩ | ⟨g, cap, cur, h1, _⟩
    ·rw [hml] at h1; cases h1
    ·cases h1)
   have HLL := Hid.mk (Zis (fun b => w.heap.size + 2 <= b) ia (x.kn + 1) ic _ ⟨hml.symm, hic1, hic2, by omega⟩ w3 (Zbt (fun b hb hlt => ⟨rfl, by have := HS0.out; omega⟩) (fun t ht z hz => Zak (fun b hb hlt => ⟨rfl, by have := HS0.out; omega⟩) t z hz) HLP.out) HII.out (fun b hb => by have := HS0.out; have := HS3.out; omega))
   obtain ⟨kn1, hkn1⟩ : ∃ kn1, x.kn + 1 = kn1 := ⟨_, rfl⟩
   rw [hkn1] at HRUN HLL
   clear hrow hb2 hz' hrun hown3 hall3 hbel3 hfar hsz3 hlp hic1 hic2 hml c2 hkn1
   go_wp2_with (first | refine Zcc rfl _ _ rfl _ _ rfl rfl HRUN.out ?_)
   refine HLL.out.mono ?_
   rintro e w4 ⟨⟨z, rfl, hz⟩, hb4⟩
   have N4 := HN3.out.go hb4
   have x0 := N4.x0
   have x1 := N4.x1
   have x2 := N4.x2
   have xf := N4.xf
   have HN4 := Hid.mk N4
   have HZ := Hid.mk hz
   clear N4 hz hb4
   go_wp2_with fail
   have hr := put3 HN4.out.row (.bool z.l) (.slice z.ba z.bn z.bc) (.slice z.ia z.m z.ic)
   refine bodyPost_ret (results_cell_row Tryz.results100 _ _ (w.heap.size + 1) 94 _ (0, 0) _ rfl hr Tryz.underlying94 rfl (by kernel_rfl)) rfl ?_
   exact Zet HN4.out HZ.out
end Go.Proofs.YtdkpilgelgjieaaGreat
namespace Go.Proofs.YtdkpilgelgjieaaGreat.Ni
open Go.RowKit
theorem Zes (w : World) (z : Int) : OwnB (w.alloc (.cells #[.int .u8 z] 5)) w.heap.size (.slice (some ⟨w.heap.size, 0, none⟩) 1 1) [z] :=
 ⟨rfl, .inr ⟨w.heap.size, 1, #[.int .u8 z], rfl, Nat.le_refl _, heap_alloc_new _ _, Nat.le_refl _, by unfold maxLen; omega, rfl, rfl⟩⟩
theorem Zon (w : World) (y z : Int) : OwnB (w.alloc (.cells #[.int .u8 y, .int .u8 z] 5)) w.heap.size (.slice (some ⟨w.heap.size, 0, none⟩) 2 2) [y, z] :=
 ⟨rfl, .inr ⟨w.heap.size, 2, #[.int .u8 y, .int .u8 z], rfl, Nat.le_refl _, heap_alloc_new _ _, Nat.le_refl _, by unfold maxLen; omega, rfl, rfl⟩⟩
theorem or_b1 : bits BinOp.or IntKind.u8 2 1 = 3 := by decide +kernel
theorem or_b0 : bits BinOp.or IntKind.u8 0 1 = 1 := by decide +kernel
set_option maxHeartbeats 400000 in
theorem Zvd (n : Nat) (leaf : Bool) (w : World) (hn : n <= 140737488355328) :
  Calls Tryz.prog 112 #[.int .i64 n, .bool leaf] w fun e w' => (∃ v, e = .returned v /\ OwnB w' w.heap.size v (hdP n leaf)) /\ Below w.heap.size w w' := by
 have h1 := or_b1
 have h0 := or_b0
 unfold hdP
 by_cases he : n % 2 = 0
 ·rw [if_pos he]
  have hei : (n : Int) % 2 = 0 := by omega
  clear he
  cases leaf with
  | true =>
   go_enter Tryz.func112, Tryz.ntmps112
   go_wp2_with fail
   go_ret
   exact ⟨⟨_, rfl, Zon _ _ _⟩, below_new _ _⟩
  | false =>
   go_enter Tryz.func112, Tryz.ntmps112
   go_wp2_with fail
   go_ret
   exact ⟨⟨_, rfl, Zon _ _ _⟩, below_new _ _⟩
 ·rw [if_neg he]
  have hei : (n : Int) % 2 = 1 := by omega
  clear he
  cases leaf with
  | true =>
   go_enter Tryz.func112, Tryz.ntmps112
   go_wp2_with fail
   go_ret
   exact ⟨⟨_, rfl, Zes _ _⟩, below_new _ _⟩
  | false =>
   go_enter Tryz.func112, Tryz.ntmps112
   go_wp2_with fail
   go_ret
   exact ⟨⟨_, rfl, Zes _ _⟩, below_new _ _⟩
set_option maxHeartbeats 1000000 in
theorem pack_any (a : Option Addr) (n c : Nat) (p : List Int) (leaf : Bool) (w : World) (h : Ag w a n c p) (hn : n + 2 <= 140737488355328) :
  Calls Tryz.prog 101 #[.slice a n c, .bool leaf] w fun e w' => (∃ a' m, e = .returned (.tuple #[.slice a' m m, .int .i64 ((packP p leaf).2 : Nat)]) /\ Ag w' a' m m (packP p leaf).1) /\ Below w.heap.size w w' := by
 have hl := h.l
 have hhd := Zvd n leaf w (by omega)
 have hpk := Zom (p := p) (leaf := leaf)
 have hlen := hd_len n leaf
 have hfb := Zk7 (p := p) (leaf := leaf) h.b
 rw [hl] at hpk hfb
 have hpp : packP p leaf = if rightP p = true then (kk (hdP n leaf ++ p), 0) else ([], 40) := by unfold packP; rw [hl]
 rw [hpp]
 clear hpp
 generalize hdP n leaf = hd at *
 obtain ⟨⟨r1, r2⟩, hr⟩ : ∃ r, (if rightP p = true then (kk (hd ++ p), 0) else (([] : List Int), 40)) = r := ⟨_, rfl⟩
 obtain ⟨⟨k1, k2⟩, hk⟩ : ∃ r, (if rightP p = true then (kk (hd ++ p), true) else (([] : List Int), false)) = r := ⟨_, rfl⟩
 rw [hr]
 rw [hk] at hpk
 simp only
 have HT : Hid (k2 = true -> r1 = k1 /\ r2 = 0) := Hid.mk (fun h => by
  by_cases hq : rightP p = true
  ·rw [if_pos hq] at hr hk
   injection hr with e1 e2
   injection hk with e3 e4
   exact ⟨e1.symm.trans e3, e2.symm⟩
  ·rw [if_neg hq] at hk
   injection hk with e3 e4
   rw [<- e4] at h
   cases h)
 have HF : Hid (k2 = false -> r1 = [] /\ r2 = 40) := Hid.mk (fun h => by
  by_cases hq : rightP p = true
  ·rw [if_pos hq] at hk
   injection hk with e3 e4
   rw [<- e4] at h
   cases h
  ·rw [if_neg hq] at hr
   injection hr with e1 e2
   exact ⟨e1.symm, e2.symm⟩)
 clear hr hk
 have HPK := Hid.mk hpk
 have HFB := Hid.mk hfb
 have HHD := Hid.mk hhd
 have HAG := Hid.mk h
 have HLEN : Hid (hd.length <= 2) := Hid.mk (by omega)
 have HL := Hid.mk hl
 clear hpk hfb hhd h hlen hl
 go_enter Tryz.func101, Tryz.ntmps101
 go_wp2_with fail
 refine HHD.out.mono ?_
 rintro e w1 ⟨⟨v, rfl, hown⟩, hb1⟩
 have HO := Hid.mk hown
 have HB1 := Hid.mk hb1
 clear hown hb1
 go_wp2_with (first | (at_builtin; refine Zbx rfl (.tmp 12) (.tmp 13) rfl w.heap.size _ hd rfl HO.out a n c p rfl (HAG.out.at HB1.out).i HAG.out.nil HAG.out.l (by have := HLEN.out; omega) HB1.out.size ?_; intro v2 w2 o2 hb2; obtain ⟨a2, c2, rfl, hag2⟩ := OwnB.ag o2 HFB.out; have HB2 := Hid.mk (HB1.out.trans hb2); have HA2 := Hid.mk hag2; clear o2 hb2 hag2; generalize hgl : (hd ++ p).length = len2 at HA2 ⊢; have HGL := Hid.mk hgl; clear hgl))
 have hk := Zx3 a2 len2 c2 (hd ++ p) w2 HA2.out (by have h1 := HGL.out; rw [List.length_append, HL.out] at h1; have := HLEN.out; omega)
 rw [HPK.out] at hk
 simp only at hk
 have HK := Hid.mk hk
 clear hk
 cases k2 with
 | true =>
  obtain ⟨rfl, rfl⟩ := HT.out rfl
  refine HK.out.mono ?_
  rintro e w3 ⟨⟨a3, m3, rfl, hag3⟩, hb3⟩
  have HA3 := Hid.mk hag3
  have HB3 := Hid.mk (HB2.out.trans (hb3.mono HB2.out.size))
  clear hag3 hb3
  go_wp2_with fail
  go_ret2
  exact ⟨⟨a3, m3, rfl, HA3.out⟩, HB3.out⟩
 | false =>
  obtain ⟨rfl, rfl⟩ := HF.out rfl
  refine HK.out.mono ?_
  rintro e w3 ⟨⟨a3, m3, rfl, hag3⟩, hb3⟩
  have HB3 := Hid.mk (HB2.out.trans (hb3.mono HB2.out.size))
  clear hag3 hb3
  go_wp2_with fail
  go_ret2
  exact ⟨⟨none, 0, rfl, ag_nil _⟩, HB3.out⟩
end Go.Proofs.YtdkpilgelgjieaaGreat.Ni
namespace Go.Proofs.YtdkpilgelgjieaaGreat
open Go.RowKit
open Ni (packP)
def two (p q : V) : Array Value := #[.bool p.l, .slice p.ba p.bn p.bc, .slice p.ia p.m p.ic, .bool q.l, .slice q.ba q.bn q.bc, .slice q.ia q.m q.ic]
section
variable {a : Act} {w : World}
theorem Zl3 {x y : Operand} {o : Oper} (ho : o.op = .buildSlice 92 2 #[(0, x), (1, y)]) (p q : V) (hx : a.eval x = .agg #[.bool p.l, .slice p.ba p.bn p.bc, .slice p.ia p.m p.ic]) (hy : a.eval y = .agg #[.bool q.l, .slice q.ba q.bn q.bc, .slice q.ia q.m q.ic]) :
  (execOp a.eval o).run Tryz.prog w = .ok (.value (.slice (some ⟨w.heap.size, 0, none⟩) 2 2)) (w.alloc (.cells (two p q) 94)) := by
 unfold execOp
 rw [ho]
 simp only [List.map_toArray, List.map_cons, List.map_nil, hx, hy]
 go_simp
 rfl
theorem Zl1 {x y : Operand} {o : Oper} (ho : o.op = .store 94 x y) (g : Nat) (p : V) (hx : a.eval x = .pointer (some ⟨g, 0, none⟩)) (hy : a.eval y = .agg #[.bool p.l, .slice p.ba p.bn p.bc, .slice p.ia p.m p.ic])
  (x0 : w.cell? ⟨g, 0, none⟩ = some (.bool false)) (x1 : w.cell? ⟨g, 1, none⟩ = some (.slice none 0 0)) (x2 : w.cell? ⟨g, 2, none⟩ = some (.slice none 0 0)) (xf : ∀ o, w.frozen? ⟨g, o, none⟩ = false) :
  (execOp a.eval o).run Tryz.prog w = .ok .skip (((w.setCell ⟨g, 0, none⟩ (.bool p.l)).setCell ⟨g, 1, none⟩ (.slice p.ba p.bn p.bc)).setCell ⟨g, 2, none⟩ (.slice p.ia p.m p.ic)) := by
 unfold execOp
 rw [ho]
 simp only [hx, hy]
 go_simp
end
theorem Zn6 {P : Nat -> Prop} {w : World} {t u : T} {p q : V} (hP : P w.heap.size) (hp : LiesP P w t p) (hq : LiesP P w u q) : LiesPAll P (w.alloc (.cells (two p q) 94)) [t, u] (some ⟨w.heap.size, 0, none⟩) 0 := by
 have hrow := heap_alloc_new w (.cells (two p q) 94)
 have hc : ∀ j, (w.alloc (.cells (two p q) 94)).cell? ⟨w.heap.size, j, none⟩ = (two p q)[j]? := fun j => cell_of_row _ _ _ _ _ _ hrow
 refine Zfb hP fun i s hs => ?_
 match i, hs with
 | 0, hs =>
  simp at hs
  subst hs
  exact ⟨p, hc 0, hc 1, hc 2, Zak (fun b hb hlt => ⟨heap_alloc_old _ _ hlt, hb⟩) _ _ hp⟩
 | 1, hs =>
  simp at hs
  subst hs
  exact ⟨q, hc 3, hc 4, hc 5, Zak (fun b hb hlt => ⟨heap_alloc_old _ _ hlt, hb⟩) _ _ hq⟩
 | k + 2, hs => simp at hs
theorem Zpb {fn : Func} {p : Tmp} (h : fn.results = #[.cell p 94]) {post : Ending -> World -> Prop} {Q : Exit -> Act -> World -> Prop} {a : Act} {w : World} (hQ : bodyPost Tryz.prog fn post .ret a w -> Q .ret a w) (g : Nat) (y : V)
  (hp : a.tmps.getD p undef = .pointer (some ⟨g, 0, none⟩)) (hd : a.defers = []) (hg : w.heap[g]? = some (.cells #[.bool y.l, .slice y.ba y.bn y.bc, .slice y.ia y.m y.ic] 94)) (hpost : post (.returned (.agg #[.bool y.l, .slice y.ba y.bn y.bc, .slice y.ia y.m y.ic])) w) :
  Code.wp Tryz.prog .ret Q a w :=
 wp_ret (hQ <| bodyPost_ret (results_cell_row h _ _ g 94 _ (0, 0) _ hp hg Tryz.underlying94 rfl (by kernel_rfl)) hd hpost)
theorem Zou {base : Nat} {w w' : World} (hb : Below w.heap.size w w') {t : T} {y : V} (h : LiesP (fun b => base <= b) w t y) : LiesP (fun b => base <= b) w' t y := Zak (fun b hb' hlt => ⟨hb.block b hlt, hb'⟩) _ _ h
theorem Zb0 {w : World} {t : T} {e : Ending} {w' : World} {base : Nat} (h : IPost w t e w') (hb : base <= w.heap.size) : ∃ val, e = .returned val /\ (Below w.heap.size w w' /\ ∃ y : V, val = .agg #[.bool y.l, .slice y.ba y.bn y.bc, .slice y.ia y.m y.ic] /\ LiesP (fun b => base <= b) w' t y) := by
 obtain ⟨⟨y, e1, hy⟩, hbl⟩ := h
 exact ⟨_, e1, hbl, y, rfl, Zak (fun b hb' hlt => ⟨rfl, Nat.le_trans hb hb'⟩) _ _ hy⟩
theorem Zhz (a : Option Addr) (n c : Nat) (b : List Int) (w : World) (h : Ag w a n c b) (hn : n <= 140737488351232) : Calls Tryz.prog 55 #[.slice a n c] w (IPost w (.mk false b [])) := by
 refine (Zdb a n c b w h hn).mono ?_
 rintro e w' ⟨rfl, hrow, hb⟩
 exact ⟨⟨⟨false, some ⟨w.heap.size + 1, 0, none⟩, n, n, none, 0, 0⟩, rfl, Zee hrow h.l h.b hn (by omega)⟩, hb⟩
set_option maxHeartbeats 8000000 in
theorem Zqk (K : Nat -> Prop) (x : NV) (n : PN) (w : World) (h : NodeAt K w x n) (hks : n.ks.length <= 100) (hpl : n.p.length <= 1000) :
  Calls Tryz.prog 81 #[.agg x.cells.toArray] w (IPost w (itemP n)) := by
 have HNN := Hid.mk (Zwk w x h.c.len)
 have HH := Hid.mk h
 have HKS := Hid.mk hks
 have HPL := Hid.mk hpl
 have hpn : x.pn <= 1000 := by rw [<- h.p.l]; exact hpl
 have hvn := h.v.2.1
 obtain ⟨res, hres⟩ : ∃ res, itemP n = res := ⟨_, rfl⟩
 rw [hres]
 unfold itemP at hres
 rw [<- h.k] at hres
 have HRES := Hid.mk hres
 clear h hks hpl hres
 go_enter Tryz.func81, Tryz.ntmps81
 go_upto_region 1 with fail
 refine gen_w (p := fun v => Code.wp _ _ _ _ v) (q := fun v => Nn w v x) HNN.out ?_
 clear HNN
 intro v N0
 have c0 := N0.bx.c0
 have c1 := N0.bx.c1
 have HN0 := Hid.mk N0
 clear N0
 by_cases h3 : x.k = 3
 ·have hr := HRES.out
  rw [if_pos h3] at hr
  subst hr
  have HBI := Hid.mk (Zjd K x n v (HH.out.go (Keep.below HN0.out.bel)) HKS.out)
  go_wp2_with (first | refine Za8 rfl _ rfl w.heap.size rfl x HN0.out.bx ?_)
  refine HBI.out.mono ?_
  rintro e w1 ⟨⟨y, rfl, hy⟩, hb1⟩
  have N1 := HN0.out.go hb1
  have x0 := N1.x0
  have x1 := N1.x1
  have x2 := N1.x2
  have xf := N1.xf
  have HN1 := Hid.mk N1
  have HY := Hid.mk (show LiesP (fun b => w.heap.size + 2 <= b) w1 _ y from Zak (fun b hb hlt => ⟨rfl, Nat.le_trans HN0.out.sz hb⟩) _ _ hy)
  clear N1 hy hb1 c0 c1
  go_wp2_with fail
  have hr := put3 HN1.out.row (.bool y.l) (.slice y.ba y.bn y.bc) (.slice y.ia y.m y.ic)
  refine bodyPost_ret (results_cell_row Tryz.results81 _ _ (w.heap.size + 1) 94 _ (0, 0) _ rfl hr Tryz.underlying94 rfl (by kernel_rfl)) rfl ?_
  exact Zet HN1.out HY.out
 ·have e3 : (x.k == 3) = false := by simp [h3]
  obtain ⟨lf, hlf⟩ : ∃ lf, (x.k == 1) = lf := ⟨_, rfl⟩
  have HPK := Hid.mk (Ni.pack_any x.pa x.pn x.pc n.p lf v (HH.out.p.1.at HN0.out.bel) (by omega))
  have HLF := Hid.mk hlf
  obtain ⟨pk, hpk⟩ : ∃ pk, (packP n.p lf).1 = pk := ⟨_, rfl⟩
  rw [hpk] at HPK
  have HPKE := Hid.mk hpk
  have HPKL := Hid.mk (show pk.length <= 1000 from by
   rw [<- hpk]
   unfold packP
   split
   ·dsimp only; rw [Ni.pack_len]; have := HPL.out; omega
   ·simp)
  obtain ⟨per, hper⟩ : ∃ per : Nat, (packP n.p lf).2 = per := ⟨_, rfl⟩
  rw [hper] at HPK
  clear hpk hper
  go_wp2_with fail
  refine HPK.out.mono ?_
  rintro e w1 ⟨⟨a', m, rfl, hag⟩, hb1⟩
  have N1 := HN0.out.go hb1
  have d0 := N1.bx.c0
  have HPM := Hid.mk (show m <= 140737488351232 from by have := hag.l; have := HPKL.out; omega)
  have HPA := Hid.mk hag
  have HN1 := Hid.mk N1
  have hr := HRES.out
  rw [if_neg h3] at hr
  clear hag hb1 N1 c0 c1
  by_cases h1 : x.k = 1
  ·rw [if_pos h1] at hr
   have hlt : lf = true := by rw [<- HLF.out, h1]; rfl
   subst hlt
   rw [HPKE.out] at hr
   subst hr
   clear HLF HRES
   have hn1 : Nn w w1 x := HN1.out
   go_upto_region 5 with fail
   rename_i KK hkk
   refine wp_region_held_drew (S := fun v' => NBx w.heap.size v' x /\ Below w.heap.size w v') (by kernel_rfl) ⟨⟨HN1.out.bx.row, HN1.out.bx.l⟩, HN1.out.bel.drew⟩ (fun hS => ?_)
   have hN0 : Nn w w1.drew x := ⟨HN1.out.row, ⟨HN1.out.bx.row, HN1.out.bx.l⟩, HN1.out.bel.drew, HN1.out.sz⟩
   refine Zaj 0 22 (.slice a' m m) rfl rfl (by kernel_rfl) (by kernel_rfl) (by kernel_rfl) (fun _ _ _ h => h) (by kernel_rfl) (fun v _ => by kernel_rfl) hS <| Zaj 2 24 (.pointer (some ⟨w.heap.size, 2, none⟩)) rfl rfl (by kernel_rfl) (by kernel_rfl) (by kernel_rfl) (fun _ _ _ h => h) (by kernel_rfl) (fun v _ => by kernel_rfl) hS <| Zaj 3 25 (.slice x.va x.vn x.vc) rfl rfl (by kernel_rfl) (by kernel_rfl) (by kernel_rfl) (fun _ _ _ h => h) (by kernel_rfl) (fun v' hv => Zd1 rfl (by kernel_rfl) hv.1.c2) hS <| wpAnyH_ready (rs := [1]) (by kernel_rfl) (by simp) ?_
   refine Zci 1 23 rfl rfl (by kernel_rfl) 55 #[.slice a' m m] (by kernel_rfl) (R := fun val w' => Below w1.drew.heap.size w1.drew w' /\ ∃ y : V, val = .agg #[.bool y.l, .slice y.ba y.bn y.bc, .slice y.ia y.m y.ic] /\ LiesP (fun b => w.heap.size + 2 <= b) w' (.mk false pk []) y) ((Zhz a' m m pk w1.drew (HPA.out.at (Below.refl _ _).drew) HPM.out).mono (fun e w' h => Zb0 h hN0.sz)) (fun val w' h => ⟨(hN0.go h.1).bx, (hN0.go h.1).bel⟩) ?_ AllReadyH.nil
   rintro val u1 ⟨hb1, z1, rfl, hz1⟩
   have hN1 := hN0.go hb1
   refine wpAnyH_ready (rs := [4]) (by kernel_rfl) (by simp) ?_
   refine Zci 4 26 rfl rfl (by kernel_rfl) 55 #[.slice x.va x.vn x.vc] (by kernel_rfl) (R := fun val w' => Below u1.heap.size u1 w' /\ ∃ y : V, val = .agg #[.bool y.l, .slice y.ba y.bn y.bc, .slice y.ia y.m y.ic] /\ LiesP (fun b => w.heap.size + 2 <= b) w' (.mk false n.v []) y) ((Zhz x.va x.vn x.vc n.v u1 (HH.out.v.1.at hN1.bel) HH.out.v.2.1).mono (fun e w' h => Zb0 h hN1.sz)) (fun val w' h => ⟨(hN1.go h.1).bx, (hN1.go h.1).bel⟩) ?_ AllReadyH.nil
   rintro val u2 ⟨hb2, z2, rfl, hz2⟩
   have hN2 := hN1.go hb2
   have hz1 := Zou hb2 hz1
   refine wpAnyH_ready (rs := [5]) (by kernel_rfl) (by simp) ?_
   have hN3 : Nn w (u2.alloc (.cells (two z1 z2) 94)) x := hN2.go (below_new _ _)
   refine Zbd 5 27 (.slice (some ⟨u2.heap.size, 0, none⟩) 2 2) rfl rfl (by kernel_rfl) (Zl3 rfl z1 z2 (by kernel_rfl) (by kernel_rfl)) ⟨hN3.bx, hN3.bel⟩ ?_ AllReadyH.nil
   refine wpAnyH_ready (rs := [6]) (by kernel_rfl) (by simp) ?_
   refine Zci 6 28 rfl rfl (by kernel_rfl) 102 #[.slice (some ⟨u2.heap.size, 0, none⟩) 2 2] (by kernel_rfl) (R := fun val w' => Below (u2.alloc (.cells (two z1 z2) 94)).heap.size (u2.alloc (.cells (two z1 z2) 94)) w' /\ ∃ y : V, val = .agg #[.bool y.l, .slice y.ba y.bn y.bc, .slice y.ia y.m y.ic] /\ LiesP (fun b => w.heap.size + 2 <= b) w' (.mk true [] [.mk false pk [], .mk false n.v []]) y)
    ((Zis (fun b => w.heap.size + 2 <= b) (some ⟨u2.heap.size, 0, none⟩) 2 2 [.mk false pk [], .mk false n.v []] ⟨rfl, Nat.le_refl _, by unfold maxLen; omega, by omega⟩ _ (Zn6 hN2.sz hz1 hz2) (fun e => by cases e) (fun b hb => Nat.le_trans hN3.sz hb)).mono (fun e w' h => by
     obtain ⟨⟨y, e1, hy⟩, hb⟩ := h
     exact ⟨_, e1, hb, y, rfl, hy⟩)) (fun val w' h => ⟨(hN3.go h.1).bx, (hN3.go h.1).bel⟩) ?_ AllReadyH.nil
   rintro val w4 ⟨hb4, z, rfl, hz⟩
   have hN4 := hN3.go hb4
   have hS4 : NBx w.heap.size (((w4.setCell ⟨w.heap.size + 1, 0, none⟩ (.bool z.l)).setCell ⟨w.heap.size + 1, 1, none⟩ (.slice z.ba z.bn z.bc)).setCell ⟨w.heap.size + 1, 2, none⟩ (.slice z.ia z.m z.ic)) x /\ Below w.heap.size w (((w4.setCell ⟨w.heap.size + 1, 0, none⟩ (.bool z.l)).setCell ⟨w.heap.size + 1, 1, none⟩ (.slice z.ba z.bn z.bc)).setCell ⟨w.heap.size + 1, 2, none⟩ (.slice z.ia z.m z.ic)) := ⟨⟨(Zbv (by omega) _ _ _).trans hN4.bx.row, hN4.bx.l⟩, Za0 hN4.bel (by omega) _ _ _⟩
   refine wpAnyH_ready (rs := [7]) (by kernel_rfl) (by simp) ?_
   refine Zbz 7 rfl rfl (by kernel_rfl) (Zl1 rfl (w.heap.size + 1) z (by kernel_rfl) (by kernel_rfl) hN4.x0 hN4.x1 hN4.x2 hN4.xf) hS4 ?_ AllReadyH.nil
   refine wpAnyH_done (by kernel_rfl) ?_ _
   refine hkk _ _ <| Zpb Tryz.results81 (fun h => h) (w.heap.size + 1) z (by kernel_rfl) (by kernel_rfl) (put3 hN4.row _ _ _) ?_
   exact Zet hN4 hz
  ·rw [if_neg h1] at hr
   have hlt : lf = false := by rw [<- HLF.out]; simp [h1]
   subst hlt
   rw [HPKE.out] at hr
   subst hr
   have e1 : (x.k == 1) = false := by simp [h1]
   clear HLF HRES
   go_upto_region 6 with fail
   rename_i KK hkk
   refine wp_region_held_drew (S := fun v' => NBx w.heap.size v' x /\ Below w.heap.size w v') (by kernel_rfl) ⟨⟨HN1.out.bx.row, HN1.out.bx.l⟩, HN1.out.bel.drew⟩ (fun hS => ?_)
   have hN0 : Nn w w1.drew x := ⟨HN1.out.row, ⟨HN1.out.bx.row, HN1.out.bx.l⟩, HN1.out.bel.drew, HN1.out.sz⟩
   refine Zaj 0 29 (.slice a' m m) rfl rfl (by kernel_rfl) (by kernel_rfl) (by kernel_rfl) (fun _ _ _ h => h) (by kernel_rfl) (fun v _ => by kernel_rfl) hS <| Zaj 2 31 (.pointer (some ⟨w.heap.size, 3, none⟩)) rfl rfl (by kernel_rfl) (by kernel_rfl) (by kernel_rfl) (fun _ _ _ h => h) (by kernel_rfl) (fun v _ => by kernel_rfl) hS <| Zaj 3 32 (.agg x.c.cells.toArray) rfl rfl (by kernel_rfl) (by kernel_rfl) (by kernel_rfl) (fun _ _ _ h => h) (by kernel_rfl) (fun v' hv => Zec rfl (by kernel_rfl) HH.out.c.len hv.1.child) hS <| wpAnyH_ready (rs := [1]) (by kernel_rfl) (by simp) ?_
   refine Zci 1 30 rfl rfl (by kernel_rfl) 55 #[.slice a' m m] (by kernel_rfl) (R := fun val w' => Below w1.drew.heap.size w1.drew w' /\ ∃ y : V, val = .agg #[.bool y.l, .slice y.ba y.bn y.bc, .slice y.ia y.m y.ic] /\ LiesP (fun b => w.heap.size + 2 <= b) w' (.mk false pk []) y) ((Zhz a' m m pk w1.drew (HPA.out.at (Below.refl _ _).drew) HPM.out).mono (fun e w' h => Zb0 h hN0.sz)) (fun val w' h => ⟨(hN0.go h.1).bx, (hN0.go h.1).bel⟩) ?_ AllReadyH.nil
   rintro val u1 ⟨hb1, z1, rfl, hz1⟩
   have hN1 := hN0.go hb1
   refine wpAnyH_ready (rs := [4]) (by kernel_rfl) (by simp) ?_
   refine Zci 4 33 rfl rfl (by kernel_rfl) 103 #[.agg x.c.cells.toArray] (by kernel_rfl) (R := fun val w' => Below u1.heap.size u1 w' /\ ∃ y : V, val = .agg #[.bool y.l, .slice y.ba y.bn y.bc, .slice y.ia y.m y.ic] /\ LiesP (fun b => w.heap.size + 2 <= b) w' (refItemP n.c) y) ((Zh9 K x.c n.c u1 (HH.out.c.go (Keep.below hN1.bel))).mono (fun e w' h => Zb0 h hN1.sz)) (fun val w' h => ⟨(hN1.go h.1).bx, (hN1.go h.1).bel⟩) ?_ AllReadyH.nil
   rintro val u2 ⟨hb2, z2, rfl, hz2⟩
   have hN2 := hN1.go hb2
   have hz1 := Zou hb2 hz1
   refine wpAnyH_ready (rs := [5]) (by kernel_rfl) (by simp) ?_
   have hN3 : Nn w (u2.alloc (.cells (two z1 z2) 94)) x := hN2.go (below_new _ _)
   refine Zbd 5 34 (.slice (some ⟨u2.heap.size, 0, none⟩) 2 2) rfl rfl (by kernel_rfl) (Zl3 rfl z1 z2 (by kernel_rfl) (by kernel_rfl)) ⟨hN3.bx, hN3.bel⟩ ?_ AllReadyH.nil
   refine wpAnyH_ready (rs := [6]) (by kernel_rfl) (by simp) ?_
   refine Zci 6 35 rfl rfl (by kernel_rfl) 102 #[.slice (some ⟨u2.heap.size, 0, none⟩) 2 2] (by kernel_rfl) (R := fun val w' => Below (u2.alloc (.cells (two z1 z2) 94)).heap.size (u2.alloc (.cells (two z1 z2) 94)) w' /\ ∃ y : V, val = .agg #[.bool y.l, .slice y.ba y.bn y.bc, .slice y.ia y.m y.ic] /\ LiesP (fun b => w.heap.size + 2 <= b) w' (.mk true [] [.mk false pk [], refItemP n.c]) y)
    ((Zis (fun b => w.heap.size + 2 <= b) (some ⟨u2.heap.size, 0, none⟩) 2 2 [.mk false pk [], refItemP n.c] ⟨rfl, Nat.le_refl _, by unfold maxLen; omega, by omega⟩ _ (Zn6 hN2.sz hz1 hz2) (fun e => by cases e) (fun b hb => Nat.le_trans hN3.sz hb)).mono (fun e w' h => by
     obtain ⟨⟨y, e1, hy⟩, hb⟩ := h
     exact ⟨_, e1, hb, y, rfl, hy⟩)) (fun val w' h => ⟨(hN3.go h.1).bx, (hN3.go h.1).bel⟩) ?_ AllReadyH.nil
   rintro val w4 ⟨hb4, z, rfl, hz⟩
   have hN4 := hN3.go hb4
   have hS4 : NBx w.heap.size (((w4.setCell ⟨w.heap.size + 1, 0, none⟩ (.bool z.l)).setCell ⟨w.heap.size + 1, 1, none⟩ (.slice z.ba z.bn z.bc)).setCell ⟨w.heap.size + 1, 2, none⟩ (.slice z.ia z.m z.ic)) x /\ Below w.heap.size w (((w4.setCell ⟨w.heap.size + 1, 0, none⟩ (.bool z.l)).setCell ⟨w.heap.size + 1, 1, none⟩ (.slice z.ba z.bn z.bc)).setCell ⟨w.heap.size + 1, 2, none⟩ (.slice z.ia z.m z.ic)) := ⟨⟨(Zbv (by omega) _ _ _).trans hN4.bx.row, hN4.bx.l⟩, Za0 hN4.bel (by omega) _ _ _⟩
   refine wpAnyH_ready (rs := [7]) (by kernel_rfl) (by simp) ?_
   refine Zbz 7 rfl rfl (by kernel_rfl) (Zl1 rfl (w.heap.size + 1) z (by kernel_rfl) (by kernel_rfl) hN4.x0 hN4.x1 hN4.x2 hN4.xf) hS4 ?_ AllReadyH.nil
   refine wpAnyH_done (by kernel_rfl) ?_ _
   refine hkk _ _ <| Zpb Tryz.results81 (fun h => h) (w.heap.size + 1) z (by kernel_rfl) (by kernel_rfl) (put3 hN4.row _ _ _) ?_
   exact Zet hN4 hz
def NEP (n : PN) : List Int × Nat := if NR n = true then (NE n, 0) else ([], 50)
theorem Zlf {n : PN} (h : NR n = true) : n.ks.length <= 100 /\ n.p.length <= 1000 := by
 rcases Zhs h with ⟨_, h1, _, _, _, _, _, h7⟩ | ⟨_, _, h2, _, _, _, _, h7⟩ | ⟨_, h1, _, _, _, h5, _, _⟩
 ·rw [h7]; exact ⟨by simp, by omega⟩
 ·rw [h7]; exact ⟨by simp, by omega⟩
 ·rw [h1]; exact ⟨by omega, by simp⟩
def EPost (w : World) (r : List Int × Nat) : Ending -> World -> Prop := fun e w' => (∃ a m c, e = .returned (.tuple #[.slice a m c, .int .i64 (r.2 : Nat)]) /\ Ag w' a m c r.1 /\ Fr w.heap.size w' a m) /\ Below w.heap.size w w'
set_option maxHeartbeats 4000000 in
theorem Znk (K : Nat -> Prop) (x : NV) (n : PN) (w : World) (h : NodeAt K w x n) :
  Calls Tryz.prog 66 #[.agg x.cells.toArray] w (EPost w (NEP n)) := by
 have B := Zcw w x h.c.len
 have HB := Hid.mk (below_new w (.cells x.cells.toArray 104))
 have HR := Hid.mk (show ∀ v, Below w.heap.size w v -> Calls Tryz.prog 80 #[.agg x.cells.toArray] v fun e w' => e = .returned (.bool (NR n)) /\ Below v.heap.size v w' from fun v hv => Zqd K x n v (h.go (Keep.below hv)))
 obtain ⟨q, hq⟩ : ∃ q, NR n = q := ⟨_, rfl⟩
 have HQ := Hid.mk hq
 have HH := Hid.mk h
 rw [hq] at HR
 obtain ⟨res, hres⟩ : ∃ res, NEP n = res := ⟨_, rfl⟩
 rw [hres]
 unfold NEP at hres
 rw [hq] at hres
 have HRES := Hid.mk hres
 clear h hq hres
 go_enter Tryz.func66, Tryz.ntmps66
 go_upto_region 1 with fail
 refine gen_w (p := fun v => Code.wp _ _ _ _ v) (q := fun v => NBx w.heap.size v x /\ Below w.heap.size w v) ⟨B, HB.out⟩ ?_
 clear B HB
 rintro v ⟨B, hb⟩
 have HB := Hid.mk hb
 have HX := Hid.mk B
 clear hb B
 go_wp2_with (first | refine Za8 rfl _ rfl w.heap.size rfl x HX.out ?_)
 refine (HR.out v HB.out).mono ?_
 rintro e w1 ⟨rfl, hb1⟩
 have HX1 := Hid.mk (HX.out.go hb1)
 have HB1 := Hid.mk (below_go HB.out hb1)
 clear hb1 HX HB
 have hr := HRES.out
 cases q with
 | false =>
  rw [if_neg (by simp)] at hr
  subst hr
  go_wp2_with fail
  go_ret2
  exact ⟨⟨none, 0, 0, rfl, ⟨.inl ⟨rfl, rfl⟩, fun _ => ⟨rfl, rfl⟩, rfl, fun x hx => by cases hx⟩, fun g off e => by cases e⟩, HB1.out⟩
 | true =>
  rw [if_pos rfl] at hr
  subst hr
  obtain ⟨s1, s2⟩ := Zlf HQ.out
  have HIT := Hid.mk (Zqk K x n w1 (HH.out.go (Keep.below HB1.out)) s1 s2)
  obtain ⟨b1, b2, b3⟩ := Zc5 HH.out.okN HQ.out
  have HEP := Hid.mk (Zex b1)
  clear s1 s2 b1 b2 b3
  go_wp2_with (first | refine Za8 rfl _ rfl w.heap.size rfl x HX1.out ?_)
  refine HIT.out.mono ?_
  rintro e w2 ⟨⟨y, rfl, hy⟩, hb2⟩
  have HEN := Hid.mk (Zgj (itemP n) y w2 (Zbg _ _ hy))
  rw [HEP.out] at HEN
  have HB2 := Hid.mk (below_go HB1.out hb2)
  clear hy hb2
  go_wp2_with fail
  refine HEN.out.mono ?_
  rintro e w3 ⟨⟨a, m, c, rfl, hag, hfr⟩, hb3⟩
  have HB3 := Hid.mk (below_go HB2.out hb3)
  have HAG := Hid.mk hag
  have HFR := Hid.mk (show Fr w.heap.size w3 a m from fun g off e h0 => ⟨Nat.le_trans HB2.out.size (hfr g off e h0).1, (hfr g off e h0).2⟩)
  clear hag hfr hb3
  go_wp2_with fail
  go_ret2
  exact ⟨⟨a, m, c, rfl, HAG.out, HFR.out⟩, HB3.out⟩
end Go.Proofs.YtdkpilgelgjieaaGreat

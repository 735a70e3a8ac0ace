/- What List answers of things that lie in memory; an item appended to a row of them. -/
import Derived.Test.YtchgejomcgoaeaaGreatG22
import Derived.Test.YtchgejomcgoaeaaGreatG28
import Derived.Test.YtchgejomcgoaeaaGreatG30
import Derived.Test.YtchgejomcgoaeaaGreatG15
set_option linter.unusedVariables false
set_option maxRecDepth 100000
namespace Go.Proofs.YtchgejomcgoaeaaGreat
open Go.RowKit
variable {w : World} {it : Value} {ys : List V} {ts : List T} {y : V} {x : NV}
theorem V.ext {a b : V} (h0 : Value.bool a.l = .bool b.l) (h1 : Value.slice a.ba a.bn a.bc = .slice b.ba b.bn b.bc) (h2 : Value.slice a.ia a.m a.ic = .slice b.ia b.m b.ic) : a = b := by
  cases a; cases b
  cases h0; cases h1; cases h2
  rfl
theorem Zeh {P : Nat → Prop} {w : World} {g off : Nat} (hP : P g) : ∀ {ts : List T} {k : Nat}, (∀ (i : Nat) (t : T), ts[i]? = some t → ∃ y : V, w.cell? ⟨g, off + (k + i) * 3, none⟩ = some (.bool y.l) ∧ w.cell? ⟨g, off + (k + i) * 3 + 1, none⟩ = some (.slice y.ba y.bn y.bc) ∧ w.cell? ⟨g, off + (k + i) * 3 + 2, none⟩ = some (.slice y.ia y.m y.ic) ∧ LiesP P w t y) → LiesPAll P w ts (some ⟨g, off, none⟩) k
  | [], _, _ => Zbs
  | t :: r, k, h => by
    obtain ⟨y, h0, h1, h2, h3⟩ := h 0 t rfl
    refine liesPAll_cons.2 ⟨⟨g, off, y, ⟨rfl, hP⟩, h0, h1, h2, h3⟩, Zeh hP fun i u hu => ?_⟩
    obtain ⟨z, z0, z1, z2, z3⟩ := h (i + 1) u (by simpa using hu)
    rw [show k + (i + 1) = k + 1 + i from by omega] at z0 z1 z2
    exact ⟨z, z0, z1, z2, z3⟩
theorem Zgy (P : Nat → Prop) (a : Option Addr) (m c : Nat) (ts : List T) (hm : m = ts.length ∧ m ≤ c ∧ c ≤ maxLen ∧ m ≤ 1000) (w : World) (hall : LiesPAll P w ts a 0) (hnil : a = none → c = 0) (hP : ∀ b, w.heap.size ≤ b → P b) :
    Calls Tryz.prog 100 #[.slice a m c] w fun e w' => (∃ y : V, e = .returned (.agg #[.bool y.l, .slice y.ba y.bn y.bc, .slice y.ia y.m y.ic]) ∧ LiesP P w' (.mk true [] ts) y) ∧ Below w.heap.size w w' := by
  have hall0 : LiesAll w ts a 0 := Zde (fun t _ x h => Zcn t x h) hall
  refine (Zsw a m c ts ⟨hm.1, hm.2.1, hm.2.2.1, by omega⟩ w hall0 (by omega) hnil).mono ?_
  rintro e w' ⟨ys, hyl, rfl, hrow, hat, hb⟩
  refine ⟨⟨⟨true, none, 0, 0, some ⟨w.heap.size + 1, 0, none⟩, m, m⟩, rfl, ?_⟩, hb⟩
  refine liesP_eq.2 ⟨⟨rfl, ⟨.inl ⟨rfl, rfl⟩, fun _ => ⟨rfl, rfl⟩, rfl, fun x hx => by cases hx⟩, hm.1, Nat.le_refl _, by show m ≤ maxLen; unfold maxLen; omega, ⟨Nat.zero_le _, by show m ≤ _; omega⟩, fun g off e => by cases e⟩, Zeh (hP _ (by omega)) fun i t ht => ?_⟩
  have hi : i < ys.length := by rw [hyl, hm.1]; exact (List.getElem?_eq_some_iff.1 ht).1
  obtain ⟨g, off, u, A⟩ := hat i ys[i] (List.getElem?_eq_getElem hi)
  obtain ⟨g', off', y', A'⟩ := Zcr hall i t ht
  rw [Nat.zero_add] at A'
  have e := A.ha
  rw [A'.ha] at e
  cases e
  have hy : ys[i] = y' := V.ext (Option.some.inj (A.c0.symm.trans A'.c0)) (Option.some.inj (A.c1.symm.trans A'.c1)) (Option.some.inj (A.c2.symm.trans A'.c2))
  have hc : ∀ j u, (V.cells ys[i])[j]? = some u → w'.cell? ⟨w.heap.size + 1, i * 3 + j, none⟩ = some u := fun j u hu => by
    rw [cell_of_row _ _ _ _ _ _ hrow, List.getElem?_toArray]
    have e : ys = ys.take i ++ ys[i] :: ys.drop (i + 1) := by rw [← List.drop_eq_getElem_cons hi, List.take_append_drop]
    have hl : (ys.take i).length = i := by rw [List.length_take]; omega
    have hf := Ze0 (ys.take i) ys[i] (ys.drop (i + 1)) j u hu
    rw [hl, ← e] at hf
    exact hf
  refine ⟨ys[i], ?_, ?_, ?_, ?_⟩
  · have := hc 0 _ rfl
    rwa [show i * 3 + 0 = 0 + (0 + i) * 3 from by omega] at this
  · have := hc 1 _ rfl
    rwa [show i * 3 + 1 = 0 + (0 + i) * 3 + 1 from by omega] at this
  · have := hc 2 _ rfl
    rwa [show i * 3 + 2 = 0 + (0 + i) * 3 + 2 from by omega] at this
  · rw [hy]; exact Zax (fun b hb' hlt => ⟨hb.block b hlt, hb'⟩) t y' A'.li
theorem Zjf {wr w1 : World} {t : T} (hown : OwnI wr w.heap.size it ys) (hall : AllP (fun b => w.heap.size ≤ b ∧ it.ownBlock ≠ some b) wr ts ys) (hbel : Below w.heap.size w wr) (hb1 : Below wr.heap.size wr w1)
    (hy : LiesP (fun b => wr.heap.size ≤ b) w1 t y) (hlen : ys.length ≤ 1000000000) (ty : TypeId) :
    ∃ v' w3, (Builtin.append_ #[74, 74] ty #[it, .slice (some ⟨w1.heap.size, 0, none⟩) 1 1]).run Tryz.prog (w1.alloc (.cells #[.bool y.l, .slice y.ba y.bn y.bc, .slice y.ia y.m y.ic] 76)) = .ok v' w3 ∧
      OwnI w3 w.heap.size v' (ys ++ [y]) ∧ AllP (fun b => w.heap.size ≤ b ∧ v'.ownBlock ≠ some b) w3 (ts ++ [t]) (ys ++ [y]) ∧ Below w.heap.size w w3 ∧ (∀ b, b < w1.heap.size → it.ownBlock ≠ some b → w3.heap[b]? = w1.heap[b]?) ∧ w1.heap.size ≤ w3.heap.size := by
  obtain ⟨Y, hY⟩ : ∃ Y : Obj, Obj.cells #[.bool y.l, .slice y.ba y.bn y.bc, .slice y.ia y.m y.ic] 76 = Y := ⟨_, rfl⟩
  rw [hY]
  have hs2 : (w1.alloc Y).heap.size = w1.heap.size + 1 := by simp
  have hb2 : Below wr.heap.size wr (w1.alloc Y) := hb1.alloc hb1.size _
  have hz := hbel.size
  have hz1 := hb1.size
  have hblk : (w1.alloc Y).heap[w1.heap.size]? = some Y := heap_alloc_new w1 Y
  have hnews : ∀ j u, (V.cells y)[j]? = some u → (w1.alloc Y).cell? ((⟨w1.heap.size, 0, none⟩ : Addr).add j) = some u := by
    intro j u hu
    rw [Zbb, Nat.zero_add]
    rw [← hY] at hblk ⊢
    rw [cell_of_row _ _ _ _ _ _ hblk]
    simpa [V.cells] using hu
  obtain ⟨v', w3, hrun, hown3, hgr, hown4⟩ := Zm0 (Zl3 hown fun g _ hg => hb2.block g hg) y _ 1 hnews (by omega) hlen ty
  have hfar : ∀ b, b < w1.heap.size + 1 → it.ownBlock ≠ some b → w3.heap[b]? = (w1.alloc Y).heap[b]? := fun b hb hne => hgr.block b (by rw [hs2]; exact hb) (fun h => hne h.symm)
  have hit : ∀ g, it.ownBlock = some g → g < wr.heap.size := fun g hg => (Zl1 hown hg).2
  have hv' : ∀ b, b < w1.heap.size → it.ownBlock ≠ some b → v'.ownBlock ≠ some b := fun b hb hne h => by
    rcases hown4 with h4 | h4
    · exact hne (h4.symm.trans h)
    · rw [h4, hs2] at h; cases h; omega
  refine ⟨v', w3, hrun, hown3, AllP.snoc ?_ (hall.mono fun b hb hlt => ⟨?_, hb.1, hv' b (by omega) hb.2⟩), ?_, fun b hb hne => ?_, by have := hgr.size; omega⟩
  · refine Zax (fun b hb hlt => ⟨?_, by omega, ?_⟩) t y hy
    · have hne : it.ownBlock ≠ some b := fun h => by have := hit b h; omega
      rw [hfar b (by omega) hne, Below.heap_alloc _ _ _ hlt]
    · exact hv' b hlt (fun h => by have := hit b h; omega)
  · rw [hfar b (by omega) hb.2]
    exact hb2.block b hlt
  · refine hbel.trans ⟨hgr.os.trans hb2.os, hgr.tape.trans hb2.tape, hgr.output.trans hb2.output, Nat.le_trans hb2.size hgr.size, fun b hb => ?_⟩
    rw [hfar b (by omega) (fun h => by have := (Zl1 hown h).1; omega)]
    exact hb2.block b (by omega)
  · rw [hfar b (by omega) hne, Below.heap_alloc _ _ _ hb]
structure Nn (w v : World) (x : NV) : Prop where
  row : v.heap[w.heap.size + 1]? = some (.cells #[.bool false, .slice none 0 0, .slice none 0 0] 76)
  bx : NBx w.heap.size v x
  bel : Below w.heap.size w v
  sz : w.heap.size + 2 ≤ v.heap.size
theorem Nn.go {v v' : World} (h : Nn w v x) (hb : Below v.heap.size v v') : Nn w v' x := ⟨Below.row hb h.row, h.bx.go hb, below_go h.bel hb, Nat.le_trans h.sz hb.size⟩
theorem Zt6 (w : World) (x : NV) (hl : x.c.d.length = 32) : Nn w ((w.alloc (.cells x.cells.toArray 68)).alloc (.cells #[.bool false, .slice none 0 0, .slice none 0 0] 76)) x := by
  have s1 : (w.alloc (.cells x.cells.toArray 68)).heap.size = w.heap.size + 1 := by simp
  refine ⟨?_, (Zeg w x hl).go (below_new _ _), below_go (below_new w _) (below_new _ _), by simp⟩
  have := heap_alloc_new (w.alloc (.cells x.cells.toArray 68)) (.cells #[.bool false, .slice none 0 0, .slice none 0 0] 76)
  rwa [s1] at this
theorem Nn.x0 {v : World} (h : Nn w v x) : v.cell? ⟨w.heap.size + 1, 0, none⟩ = some (.bool false) := by rw [cell_of_row _ _ _ _ _ _ h.row]; rfl
theorem Nn.x1 {v : World} (h : Nn w v x) : v.cell? ⟨w.heap.size + 1, 1, none⟩ = some (.slice none 0 0) := by rw [cell_of_row _ _ _ _ _ _ h.row]; rfl
theorem Nn.x2 {v : World} (h : Nn w v x) : v.cell? ⟨w.heap.size + 1, 2, none⟩ = some (.slice none 0 0) := by rw [cell_of_row _ _ _ _ _ _ h.row]; rfl
theorem Nn.xf {v : World} (h : Nn w v x) : ∀ o, v.frozen? ⟨w.heap.size + 1, o, none⟩ = false := fun o => frozen_of_row _ _ _ _ _ h.row
theorem Zd3 {v : World} {t : T} (h : Nn w v x) (hy : LiesP (fun b => w.heap.size + 2 ≤ b) v t y) :
    IPost w t (.returned (.agg #[.bool y.l, .slice y.ba y.bn y.bc, .slice y.ia y.m y.ic])) (((v.setCell ⟨w.heap.size + 1, 0, none⟩ (.bool y.l)).setCell ⟨w.heap.size + 1, 1, none⟩ (.slice y.ba y.bn y.bc)).setCell ⟨w.heap.size + 1, 2, none⟩ (.slice y.ia y.m y.ic)) :=
  ⟨⟨y, rfl, Zax (fun b hb hlt => ⟨Zcd (by omega) _ _ _, by omega⟩) _ _ hy⟩, Zbx h.bel (by omega) _ _ _⟩
theorem Znv {base : Nat} {u : World} (hown : OwnI u base it ys) (hall : AllP (fun b => base ≤ b ∧ it.ownBlock ≠ some b) u ts ys) : ∃ ia ic, it = .slice ia ts.length ic ∧ ts.length ≤ ic ∧ ic ≤ maxLen ∧ LiesPAll (fun b => base ≤ b) u ts ia 0 :=
  Zl2 (P := fun b => base ≤ b) hown (hall.mono fun b hb _ => ⟨rfl, hb.1⟩) (fun g hg => World.ownsRow.lt hown g hg |>.1)
set_option maxHeartbeats 8000000 in
theorem Zhk (K : Nat → Prop) (x : NV) (n : PN) (w : World) (h : NodeAt K w x n) (hks : n.ks.length ≤ 100) :
    Calls Tryz.prog 98 #[.agg x.cells.toArray] w (IPost w (.mk true [] (n.ks.map refItemP ++ [.mk false n.v []]))) := by
  have HNN := Hid.mk (Zt6 w x h.c.len)
  have HH := Hid.mk h
  obtain ⟨hm1, hm2, hm3, hm4, hm5⟩ := h.m
  unfold maxLen at hm3
  have HM1 := Hid.mk hm1
  have hkn : x.kn ≤ 100 := by rw [hm1]; exact hks
  obtain ⟨ka, hka⟩ : ∃ ka, x.ka = ka := ⟨_, rfl⟩
  have hks0 := h.ks
  rw [hka] at hks0
  have HKS := Hid.mk hks0
  have HKA := Hid.mk hka
  clear h hm1 hm4 hm5 hka hks0 hks
  go_enter Tryz.func98, Tryz.ntmps98
  go_upto_region 1 with fail
  refine gen_w (p := fun v => Code.wp _ _ _ _ v) (q := fun v => Nn w v x) HNN.out ?_
  clear HNN
  intro v N0
  have c37 := N0.bx.c37
  rw [HKA.out] at c37
  have HN0 := Hid.mk N0
  clear N0
  go_wp2_with fail
  go_loopw [3, 9] (fun it s9 u => ∃ (j : Nat) (ys : List V), j ≤ x.kn ∧ s9 = .int .i64 j ∧ ys.length = j ∧ OwnI u v.heap.size it ys ∧ AllP (fun b => v.heap.size ≤ b ∧ it.ownBlock ≠ some b) u ((n.ks.take j).map refItemP) ys ∧ Below v.heap.size v u) (fun _ s9 _ => x.kn - (intOf s9).toNat)
  case atStart => exact ⟨0, [], by omega, rfl, rfl, World.ownsRow_nil _ _ _ _, trivial, Below.refl _ _⟩
  case round =>
    obtain ⟨j, ys, hj, rfl, hyl, hown, hall, hbel⟩ := hrel
    have HYL := Hid.mk hyl
    have HOWN := Hid.mk hown
    have HALL := Hid.mk hall
    have HBEL := Hid.mk hbel
    clear hyl hown hall hbel
    by_cases hlt : j < x.kn
    · have hji : (j : Int) < x.kn := by omega
      obtain ⟨r, hr⟩ : ∃ r, n.ks[j]? = some r := ⟨_, List.getElem?_eq_getElem (by have := HM1.out; omega)⟩
      obtain ⟨g, off, y, hka, _, hrg, hy⟩ := HKS.out j r hr
      subst hka
      have HRG := Hid.mk (Zd1 hrg (fun hl => (below_go HN0.out.bel HBEL.out).block g hl))
      have HL := Hid.mk hy.len
      have HY := Hid.mk hy
      have HR := Hid.mk hr
      clear hrg hy hr
      go_upto_region 5 with (first | refine Zbf rfl _ rfl g (off + j * 34) rfl y HL.out HRG.out ?_ | refine wpList_store_row rfl 65 _ _ rfl _ y.cells.toArray rfl rfl 65 _ (heap_alloc_new _ _) (Zbw HL.out) (Zbq HL.out) (all_oneCell_toArray (RV.one _)) ?_)
      refine gen_w (p := fun v => Code.wp _ _ _ _ v) (q := fun u => RBx wr.heap.size u y ∧ Below wr.heap.size wr u) ⟨⟨setRow_heap _ _ _ _ _ _ (heap_alloc_new _ _), HL.out⟩, Below.setRow (below_new wr _) (Nat.le_refl _) _⟩ ?_
      rintro u1 ⟨B1', b1⟩
      have HX1 := Hid.mk B1'
      have HB1 := Hid.mk b1
      have HRF := Hid.mk (Zgg K y r u1 (HY.out.go (Keep.below (below_go HN0.out.bel (below_go HBEL.out b1)))))
      clear B1' b1
      go_wp2_with (first | refine Zbf rfl _ rfl wr.heap.size 0 rfl y HL.out HX1.out.all ?_)
      refine HRF.out.mono ?_
      rintro e w2 ⟨⟨z, rfl, hz⟩, hb2⟩
      have hz' : LiesP (fun b => wr.heap.size ≤ b) w2 (refItemP r) z := Zax (fun b hb hlt => ⟨rfl, Nat.le_trans HB1.out.size hb⟩) _ _ hz
      obtain ⟨v', w3, hrun, hown3, hall3, hbel3, hfar, hsz3⟩ := Zjf HOWN.out HALL.out HBEL.out (below_go HB1.out hb2) hz' (by have := HYL.out; omega) 74
      have HRUN := Hid.mk hrun
      have HO3 := Hid.mk hown3
      have HA3 := Hid.mk (show AllP (fun b => v.heap.size ≤ b ∧ v'.ownBlock ≠ some b) w3 ((n.ks.take (j + 1)).map refItemP) (ys ++ [z]) from by rw [Zc2 HR.out, List.map_append]; exact hall3)
      have HB3 := Hid.mk hbel3
      clear hz hz' hb2 hrun hown3 hall3 hbel3 hfar hsz3
      go_wp2_with (first | refine Ze4 rfl _ _ rfl _ _ rfl rfl HRUN.out ?_)
      go_roundw
      case rel => exact ⟨j + 1, ys ++ [z], by omega, by simp, by have := HYL.out; simp; omega, HO3.out, HA3.out, HB3.out⟩
      case measure => simp [intOf]; omega
    · have hji : ¬ (j : Int) < x.kn := by omega
      have hjk : j = x.kn := by omega
      have hall := HALL.out
      rw [hjk, HM1.out, List.take_length] at hall
      have HA := Hid.mk hall
      have NR' := HN0.out.go HBEL.out
      have c2 := NR'.bx.c2
      have HNR := Hid.mk NR'
      have hv := HH.out.v
      have HTX := Hid.mk (Zcx x.va x.vn x.vc n.v wr (hv.1.at (below_go HN0.out.bel HBEL.out)) hv.2.1)
      have hvl := hv.l
      have hvn := hv.2.1
      have hvb := hv.1.b
      have HVL := Hid.mk hvl
      have HVB := Hid.mk hvb
      clear hjk hall NR' hv hvl hvb
      go_wp2_with fail
      refine HTX.out.mono ?_
      rintro e w2 ⟨rfl, hrow, hb2⟩
      have hz' : LiesP (fun b => wr.heap.size ≤ b) w2 (.mk false n.v []) ⟨false, some ⟨wr.heap.size + 1, 0, none⟩, x.vn, x.vn, none, 0, 0⟩ := Zdu hrow HVL.out HVB.out hvn (by omega)
      obtain ⟨v', w3, hrun, hown3, hall3, hbel3, hfar, hsz3⟩ := Zjf HOWN.out HA.out HBEL.out hb2 hz' (by have := HYL.out; omega) 74
      obtain ⟨ia, ic, rfl, hic1, hic2, hlp⟩ := Znv hown3 hall3
      have hml : (n.ks.map refItemP ++ [T.mk false n.v []]).length = x.kn + 1 := by have := HM1.out; simp; omega
      rw [hml] at hrun hic1
      simp only at hrun
      have HRUN := Hid.mk hrun
      have HN3 := Hid.mk (show Nn w w3 x from HN0.out.go hbel3)
      have HML := Hid.mk hml
      have HLP := Hid.mk hlp
      have HS0 := Hid.mk HN0.out.sz
      have HS3 := Hid.mk hbel3.size
      have HII := Hid.mk (show ia = none → ic = 0 from fun e => by
        subst e
        rcases hown3.2 with ⟨h1, h2⟩ | ⟨g, cap, cur, h1, _⟩
        · rw [hml] at h1; cases h1
        · cases h1)
      have HLL := Hid.mk (Zgy (fun b => w.heap.size + 2 ≤ b) ia (x.kn + 1) ic _ ⟨hml.symm, hic1, hic2, by omega⟩ w3 (Zb6 (fun b hb hlt => ⟨rfl, by have := HS0.out; omega⟩) (fun t ht z hz => Zax (fun b hb hlt => ⟨rfl, by have := HS0.out; omega⟩) t z hz) HLP.out) HII.out (fun b hb => by have := HS0.out; have := HS3.out; omega))
      obtain ⟨kn1, hkn1⟩ : ∃ kn1, x.kn + 1 = kn1 := ⟨_, rfl⟩
      rw [hkn1] at HRUN HLL
      clear hrow hb2 hz' hrun hown3 hall3 hbel3 hfar hsz3 hlp hic1 hic2 hml c2 hkn1
      go_wp2_with (first | refine Ze4 rfl _ _ rfl _ _ rfl rfl HRUN.out ?_)
      refine HLL.out.mono ?_
      rintro e w4 ⟨⟨z, rfl, hz⟩, hb4⟩
      have N4 := HN3.out.go hb4
      have x0 := N4.x0
      have x1 := N4.x1
      have x2 := N4.x2
      have xf := N4.xf
      have HN4 := Hid.mk N4
      have HZ := Hid.mk hz
      clear N4 hz hb4
      go_wp2_with fail
      have hr := put3 HN4.out.row (.bool z.l) (.slice z.ba z.bn z.bc) (.slice z.ia z.m z.ic)
      refine bodyPost_ret (results_cell_row Tryz.results98 _ _ (w.heap.size + 1) 76 _ (0, 0) _ rfl hr Tryz.underlying76 rfl (by kernel_rfl)) rfl ?_
      exact Zd3 HN4.out HZ.out
end Go.Proofs.YtchgejomcgoaeaaGreat
namespace Go.Proofs.YtchgejomcgoaeaaGreat.Ni
open Go.RowKit
theorem Zx5 (p : List Int) (m i : Nat) (hm : (kk p).length = m) (hi : i < m) : ((kk p).take i ++ List.replicate (m - i) (0 : Int)).set i ((kk p).getD i 0) = (kk p).take (i + 1) ++ List.replicate (m - (i + 1)) (0 : Int) := by
  rw [Zen (by omega), List.append_assoc]
  have e : ((kk p).take i).length = i := by rw [List.length_take]; omega
  rw [List.set_append_right _ _ (by omega), e, Nat.sub_self, show m - i = (m - (i + 1)) + 1 from by omega, List.replicate_succ]
  rfl
set_option maxHeartbeats 2000000 in
theorem Zv0 (a : Option Addr) (n c : Nat) (p : List Int) (w : World) (h : Ag w a n c p) (hn : n ≤ 140737488355328) :
    Calls Tryz.prog 118 #[.slice a n c] w fun e w' => (∃ a' m, e = .returned (.tuple #[.slice a' m m, .bool (keyP p).2]) ∧ Ag w' a' m m (keyP p).1) ∧ Below w.heap.size w w' := by
  have hl := h.l
  by_cases he : n % 2 = 0
  case neg =>
    rw [Zk4 (fun hh => he (by rw [← hl]; exact hh.2))]
    simp only
    have hei : (n : Int) % 2 = 1 := by omega
    clear h hl he
    go_enter Tryz.func118, Tryz.ntmps118
    go_wp2_with fail
    go_ret2
    exact ⟨⟨none, 0, rfl, ag_nil _⟩, Below.refl _ _⟩
  have hei : (n : Int) % 2 = 0 := by omega
  have hr := right_any a n c p w h hn
  by_cases hrt : rightP p = true
  case neg =>
    rw [Zk4 (fun hh => hrt hh.1)]
    simp only
    rw [show rightP p = false from by simpa using hrt] at hr
    clear h hl he hrt
    go_enter Tryz.func118, Tryz.ntmps118
    go_wp2_with fail
    refine hr.mono ?_
    rintro e w1 ⟨rfl, rfl⟩
    clear hr
    go_wp2_with fail
    go_ret2
    exact ⟨⟨none, 0, rfl, ag_nil _⟩, Below.refl _ _⟩
  rw [Zme hrt (by omega)]
  simp only
  rw [hrt] at hr
  obtain ⟨m, hm⟩ : ∃ m, n / 2 = m := ⟨_, rfl⟩
  have hmn : n = 2 * m := by omega
  subst hmn
  clear hm he hei
  have HKL : Hid ((kk p).length = m) := Hid.mk (by rw [Zqb]; omega)
  have HKB := Hid.mk (Zt8 p h.b hrt)
  have HL := Hid.mk hl
  have HB := Hid.mk h.b
  have HRT := Hid.mk hrt
  have HC := Hid.mk (fun h0 => ag_head h h0)
  have hmk := run_make_row' (P := Tryz.prog) 29 5 (.int .u8 0) 1 Tryz.underlying29 info5b rfl .i64 .i64 m (by omega) (by omega)
  have hrow : Row w.heap.size (w.alloc (.cells (madeCells #[.int .u8 0] m) 5)) (List.replicate m 0) := by
    unfold Row; rw [heap_alloc_new, made_bytes]
  have hbw : Below w.heap.size w (w.alloc (.cells (madeCells #[.int .u8 0] m) 5)) := (Below.refl _ _).alloc (Nat.le_refl _) _
  have HR := Hid.mk hrow
  have HBW := Hid.mk hbw
  have hm2 : (2 * m : Nat) % 2 = 0 := by omega
  have hm3 : ((2 * m : Nat) : Int) % 2 = 0 := by omega
  have hm4 : ((2 * m : Nat) : Int) / 2 = m := by omega
  clear hrow hbw h hl hrt
  go_enter Tryz.func118, Tryz.ntmps118
  go_wp2_with fail
  refine hr.mono ?_
  rintro e w1 ⟨rfl, rfl⟩
  clear hr
  go_wp2_with fail
  go_loopw [21] (fun i v => ∃ k : Nat, k ≤ m ∧ i = .int .i64 k ∧ Row w1.heap.size v ((kk p).take k ++ List.replicate (m - k) 0) ∧ Below w1.heap.size w1 v) (fun i _ => m - (intOf i).toNat)
  case atStart => exact ⟨0, by omega, rfl, by rw [List.take_zero, List.nil_append, Nat.sub_zero]; exact HR.out, HBW.out⟩
  case round =>
    clear HR HBW
    obtain ⟨k, hk, rfl, hrow, hb⟩ := hrel
    by_cases hlt : k < m
    · have hki : (k : Int) < m := by omega
      have hlen : ((kk p).take k ++ List.replicate (m - k) (0 : Int)).length = m := by rw [List.length_append, List.length_replicate, List.length_take, HKL.out]; omega
      have hcell := hrow.cell (i := k) (by omega)
      have hfz := hrow.frozen k
      have hset := hrow.set k ((kk p).getD k 0)
      rw [Zx5 p m k HKL.out hlt] at hset
      have hget := Zt9 p k (by have := HL.out; omega)
      obtain ⟨g, off, rfl, hnc, hcm, hcs⟩ := HC.out (by omega)
      unfold maxLen at hcm
      have hc1 := (hb.cell (p := ⟨g, off + (2 * k), none⟩) (block_lt_of_cell (hcs (2 * k) (by omega)))).trans (hcs (2 * k) (by omega))
      have hc2 := (hb.cell (p := ⟨g, off + (2 * k + 1), none⟩) (block_lt_of_cell (hcs (2 * k + 1) (by omega)))).trans (hcs (2 * k + 1) (by omega))
      have hx0 := (HB.out _ (getD_mem (l := p) (i := 2 * k) (by have := HL.out; omega))).1
      have hy0 := (HB.out _ (getD_mem (l := p) (i := 2 * k + 1) (by have := HL.out; omega))).1
      have hx1 := Zlt HRT.out (i := 2 * k) (by have := HL.out; omega)
      have hy1 := Zlt HRT.out (i := 2 * k + 1) (by have := HL.out; omega)
      generalize ((kk p).take k ++ List.replicate (m - k) (0 : Int)).getD k 0 = z at hcell
      generalize p.getD (2 * k) 0 = x at *
      generalize p.getD (2 * k + 1) 0 = y at *
      rw [hget] at hset
      have hor := or16 hx0 hx1 hy0 hy1
      have hkm : 2 * k + 1 < 2 * m := by omega
      have hk1 : (2 * (k : Int)) < ((2 * m : Nat) : Int) := by omega
      have hk2 : (2 * (k : Int) + 1) < ((2 * m : Nat) : Int) := by omega
      have ht1 : (2 * (k : Int)).toNat = 2 * k := by omega
      have ht2 : (2 * (k : Int) + 1).toNat = 2 * k + 1 := by omega
      have HS := Hid.mk hset
      have HBB := Hid.mk hb
      clear hset hb hrow hlen hget hcs
      go_wp2_with fail
      go_region
      all_goals
        go_wp2_with fail
        exact ⟨⟨k + 1, by omega, by simp, HS.out, (HBB.out.setCell (Nat.le_refl _) _).drew⟩, by simp [intOf]; omega⟩
    · have hki : ¬ (k : Int) < m := by omega
      have e : k = m := by omega
      subst e
      rw [Nat.sub_self, List.replicate_zero, List.append_nil, List.take_of_length_le (by rw [HKL.out]; exact Nat.le_refl _)] at hrow
      have HS := Hid.mk hrow
      have HBB := Hid.mk hb
      clear hrow hb
      go_wp2_with fail
      go_ret2
      exact ⟨⟨_, _, rfl, row_ag HS.out HKL.out HKB.out (by omega)⟩, HBB.out⟩
end Go.Proofs.YtchgejomcgoaeaaGreat.Ni

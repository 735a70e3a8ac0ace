/- What itemOf answers. -/
import Derived.Test.YtefhepcplempkaaGreatG19
import Derived.Test.YtefhepcplempkaaGreatG11
import Derived.Test.YtefhepcplempkaaGreatG13
import Derived.Test.YtefhepcplempkaaGreatG18
import Derived.Maps.AppendAt
set_option linter.unusedVariables false
set_option maxRecDepth 100000
namespace Go.Proofs.YtefhepcplempkaaGreat
open Go.RowKit
open Ni (packP)
def two (p q : V) : Array Value := #[.bool p.l, .slice p.ba p.bn p.bc, .slice p.ia p.m p.ic, .bool q.l, .slice q.ba q.bn q.bc, .slice q.ia q.m q.ic]
section
variable {a : Act} {w : World}
theorem Zle {x y : Operand} {o : Oper} (ho : o.op = .buildSlice 107 2 #[(0, x), (1, y)]) (p q : V) (hx : a.eval x = .agg #[.bool p.l, .slice p.ba p.bn p.bc, .slice p.ia p.m p.ic]) (hy : a.eval y = .agg #[.bool q.l, .slice q.ba q.bn q.bc, .slice q.ia q.m q.ic]) :
  (execOp a.eval o).run Tryz.prog w = .ok (.value (.slice (some ⟨w.heap.size, 0, none⟩) 2 2)) (w.alloc (.cells (two p q) 109)) := by
 unfold execOp
 rw [ho]
 simp only [List.map_toArray, List.map_cons, List.map_nil, hx, hy]
 go_simp
 rfl
theorem Zlc {x y : Operand} {o : Oper} (ho : o.op = .store 109 x y) (g : Nat) (p : V) (hx : a.eval x = .pointer (some ⟨g, 0, none⟩)) (hy : a.eval y = .agg #[.bool p.l, .slice p.ba p.bn p.bc, .slice p.ia p.m p.ic])
  (x0 : w.cell? ⟨g, 0, none⟩ = some (.bool false)) (x1 : w.cell? ⟨g, 1, none⟩ = some (.slice none 0 0)) (x2 : w.cell? ⟨g, 2, none⟩ = some (.slice none 0 0)) (xf : ∀ o, w.frozen? ⟨g, o, none⟩ = false) :
  (execOp a.eval o).run Tryz.prog w = .ok .skip (((w.setCell ⟨g, 0, none⟩ (.bool p.l)).setCell ⟨g, 1, none⟩ (.slice p.ba p.bn p.bc)).setCell ⟨g, 2, none⟩ (.slice p.ia p.m p.ic)) := by
 unfold execOp
 rw [ho]
 simp only [hx, hy]
 go_simp
end
theorem Zm6 {P : Nat -> Prop} {w : World} {t u : T} {p q : V} (hP : P w.heap.size) (hp : LiesP P w t p) (hq : LiesP P w u q) : LiesPAll P (w.alloc (.cells (two p q) 109)) [t, u] (some ⟨w.heap.size, 0, none⟩) 0 := by
 have hrow := heap_alloc_new w (.cells (two p q) 109)
 have hc : ∀ j, (w.alloc (.cells (two p q) 109)).cell? ⟨w.heap.size, j, none⟩ = (two p q)[j]? := fun j => cell_of_row _ _ _ _ _ _ hrow
 refine Ze2 hP fun i s hs => ?_
 match i, hs with
 | 0, hs =>
  simp at hs
  subst hs
  exact ⟨p, hc 0, hc 1, hc 2, Zap (fun b hb hlt => ⟨heap_alloc_old _ _ hlt, hb⟩) _ _ hp⟩
 | 1, hs =>
  simp at hs
  subst hs
  exact ⟨q, hc 3, hc 4, hc 5, Zap (fun b hb hlt => ⟨heap_alloc_old _ _ hlt, hb⟩) _ _ hq⟩
 | k + 2, hs => simp at hs
theorem Zn6 {fn : Func} {p : Tmp} (h : fn.results = #[.cell p 109]) {post : Ending -> World -> Prop} {Q : Exit -> Act -> World -> Prop} {a : Act} {w : World} (hQ : bodyPost Tryz.prog fn post .ret a w -> Q .ret a w) (g : Nat) (y : V)
  (hp : a.tmps.getD p undef = .pointer (some ⟨g, 0, none⟩)) (hd : a.defers = []) (hg : w.heap[g]? = some (.cells #[.bool y.l, .slice y.ba y.bn y.bc, .slice y.ia y.m y.ic] 109)) (hpost : post (.returned (.agg #[.bool y.l, .slice y.ba y.bn y.bc, .slice y.ia y.m y.ic])) w) :
  Code.wp Tryz.prog .ret Q a w :=
 wp_ret (hQ <| bodyPost_ret (results_cell_row h _ _ g 109 _ (0, 0) _ hp hg Tryz.underlying109 rfl (by kernel_rfl)) hd hpost)
theorem Znu {base : Nat} {w w' : World} (hb : Below w.heap.size w w') {t : T} {y : V} (h : LiesP (fun b => base <= b) w t y) : LiesP (fun b => base <= b) w' t y := Zap (fun b hb' hlt => ⟨hb.block b hlt, hb'⟩) _ _ h
theorem Zbx {w : World} {t : T} {e : Ending} {w' : World} {base : Nat} (h : IPost w t e w') (hb : base <= w.heap.size) : ∃ val, e = .returned val /\ (Below w.heap.size w w' /\ ∃ y : V, val = .agg #[.bool y.l, .slice y.ba y.bn y.bc, .slice y.ia y.m y.ic] /\ LiesP (fun b => base <= b) w' t y) := by
 obtain ⟨⟨y, e1, hy⟩, hbl⟩ := h
 exact ⟨_, e1, hbl, y, rfl, Zap (fun b hb' hlt => ⟨rfl, Nat.le_trans hb hb'⟩) _ _ hy⟩
theorem Zhf (a : Option Addr) (n c : Nat) (b : List Int) (w : World) (h : Ag w a n c b) (hn : n <= 140737488351232) : Calls Tryz.prog 61 #[.slice a n c] w (IPost w (.mk false b [])) := by
 refine (Zc9 a n c b w h hn).mono ?_
 rintro e w' ⟨rfl, hrow, hb⟩
 exact ⟨⟨⟨false, some ⟨w.heap.size + 1, 0, none⟩, n, n, none, 0, 0⟩, rfl, Zd9 hrow h.l h.b hn (by omega)⟩, hb⟩
set_option maxHeartbeats 8000000 in
theorem Zpa (K : Nat -> Prop) (x : NV) (n : PN) (w : World) (h : NodeAt K w x n) (hks : n.ks.length <= 100) (hpl : n.p.length <= 1000) :
  Calls Tryz.prog 80 #[.agg x.cells.toArray] w (IPost w (itemP n)) := by
 have HNN := Hid.mk (Zu1 w x h.c.len)
 have HH := Hid.mk h
 have HKS := Hid.mk hks
 have HPL := Hid.mk hpl
 have hpn : x.pn <= 1000 := by rw [<- h.p.l]; exact hpl
 have hvn := h.v.2.1
 obtain ⟨res, hres⟩ : ∃ res, itemP n = res := ⟨_, rfl⟩
 rw [hres]
 unfold itemP at hres
 rw [<- h.k] at hres
 have HRES := Hid.mk hres
 clear h hks hpl hres
 go_enter Tryz.func80, Tryz.ntmps80
 go_upto_region 1 with fail
 refine gen_w (p := fun v => Code.wp _ _ _ _ v) (q := fun v => Nn w v x) HNN.out ?_
 clear HNN
 intro v N0
 have c0 := N0.bx.c0
 have c1 := N0.bx.c1
 have HN0 := Hid.mk N0
 clear N0
 by_cases h3 : x.k = 3
 ·have hr := HRES.out
  rw [if_pos h3] at hr
  subst hr
  have HBI := Hid.mk (Zir K x n v (HH.out.go (Keep.below HN0.out.bel)) HKS.out)
  go_wp2_with (first | refine Za8 rfl _ rfl w.heap.size rfl x HN0.out.bx ?_)
  refine HBI.out.mono ?_
  rintro e w1 ⟨⟨y, rfl, hy⟩, hb1⟩
  have N1 := HN0.out.go hb1
  have x0 := N1.x0
  have x1 := N1.x1
  have x2 := N1.x2
  have xf := N1.xf
  have HN1 := Hid.mk N1
  have HY := Hid.mk (show LiesP (fun b => w.heap.size + 2 <= b) w1 _ y from Zap (fun b hb hlt => ⟨rfl, Nat.le_trans HN0.out.sz hb⟩) _ _ hy)
  clear N1 hy hb1 c0 c1
  go_wp2_with fail
  have hr := put3 HN1.out.row (.bool y.l) (.slice y.ba y.bn y.bc) (.slice y.ia y.m y.ic)
  refine bodyPost_ret (results_cell_row Tryz.results80 _ _ (w.heap.size + 1) 109 _ (0, 0) _ rfl hr Tryz.underlying109 rfl (by kernel_rfl)) rfl ?_
  exact Zek HN1.out HY.out
 ·have e3 : (x.k == 3) = false := by simp [h3]
  obtain ⟨lf, hlf⟩ : ∃ lf, (x.k == 1) = lf := ⟨_, rfl⟩
  have HPK := Hid.mk (Ni.pack_any x.pa x.pn x.pc n.p lf v (HH.out.p.1.at HN0.out.bel) (by omega))
  have HLF := Hid.mk hlf
  obtain ⟨pk, hpk⟩ : ∃ pk, (packP n.p lf).1 = pk := ⟨_, rfl⟩
  rw [hpk] at HPK
  have HPKE := Hid.mk hpk
  have HPKL := Hid.mk (show pk.length <= 1000 from by
   rw [<- hpk]
   unfold packP
   split
   ·dsimp only; rw [Ni.pack_len]; have := HPL.out; omega
   ·simp)
  obtain ⟨per, hper⟩ : ∃ per : Nat, (packP n.p lf).2 = per := ⟨_, rfl⟩
  rw [hper] at HPK
  clear hpk hper
  go_wp2_with fail
  refine HPK.out.mono ?_
  rintro e w1 ⟨⟨a', m, rfl, hag⟩, hb1⟩
  have N1 := HN0.out.go hb1
  have d0 := N1.bx.c0
  have HPM := Hid.mk (show m <= 140737488351232 from by have := hag.l; have := HPKL.out; omega)
  have HPA := Hid.mk hag
  have HN1 := Hid.mk N1
  have hr := HRES.out
  rw [if_neg h3] at hr
  clear hag hb1 N1 c0 c1
  by_cases h1 : x.k = 1
  ·rw [if_pos h1] at hr
   have hlt : lf = true := by rw [<- HLF.out, h1]; rfl
   subst hlt
   rw [HPKE.out] at hr
   subst hr
   clear HLF HRES
   have hn1 : Nn w w1 x := HN1.out
   go_upto_region 5 with fail
   rename_i KK hkk
   refine wp_region_held_drew (S := fun v' => NBx w.heap.size v' x /\ Below w.heap.size w v') (by kernel_rfl) ⟨⟨HN1.out.bx.row, HN1.out.bx.l⟩, HN1.out.bel.drew⟩ (fun hS => ?_)
   have hN0 : Nn w w1.drew x := ⟨HN1.out.row, ⟨HN1.out.bx.row, HN1.out.bx.l⟩, HN1.out.bel.drew, HN1.out.sz⟩
   refine Zal 0 22 (.slice a' m m) rfl rfl (by kernel_rfl) (by kernel_rfl) (by kernel_rfl) (fun _ _ _ h => h) (by kernel_rfl) (fun v _ => by kernel_rfl) hS <| Zal 2 24 (.pointer (some ⟨w.heap.size, 2, none⟩)) rfl rfl (by kernel_rfl) (by kernel_rfl) (by kernel_rfl) (fun _ _ _ h => h) (by kernel_rfl) (fun v _ => by kernel_rfl) hS <| Zal 3 25 (.slice x.va x.vn x.vc) rfl rfl (by kernel_rfl) (by kernel_rfl) (by kernel_rfl) (fun _ _ _ h => h) (by kernel_rfl) (fun v' hv => Zdt rfl (by kernel_rfl) hv.1.c2) hS <| wpAnyH_ready (rs := [1]) (by kernel_rfl) (by simp) ?_
   refine Zcd 1 23 rfl rfl (by kernel_rfl) 61 #[.slice a' m m] (by kernel_rfl) (R := fun val w' => Below w1.drew.heap.size w1.drew w' /\ ∃ y : V, val = .agg #[.bool y.l, .slice y.ba y.bn y.bc, .slice y.ia y.m y.ic] /\ LiesP (fun b => w.heap.size + 2 <= b) w' (.mk false pk []) y) ((Zhf a' m m pk w1.drew (HPA.out.at (Below.refl _ _).drew) HPM.out).mono (fun e w' h => Zbx h hN0.sz)) (fun val w' h => ⟨(hN0.go h.1).bx, (hN0.go h.1).bel⟩) ?_ AllReadyH.nil
   rintro val u1 ⟨hb1, z1, rfl, hz1⟩
   have hN1 := hN0.go hb1
   refine wpAnyH_ready (rs := [4]) (by kernel_rfl) (by simp) ?_
   refine Zcd 4 26 rfl rfl (by kernel_rfl) 61 #[.slice x.va x.vn x.vc] (by kernel_rfl) (R := fun val w' => Below u1.heap.size u1 w' /\ ∃ y : V, val = .agg #[.bool y.l, .slice y.ba y.bn y.bc, .slice y.ia y.m y.ic] /\ LiesP (fun b => w.heap.size + 2 <= b) w' (.mk false n.v []) y) ((Zhf x.va x.vn x.vc n.v u1 (HH.out.v.1.at hN1.bel) HH.out.v.2.1).mono (fun e w' h => Zbx h hN1.sz)) (fun val w' h => ⟨(hN1.go h.1).bx, (hN1.go h.1).bel⟩) ?_ AllReadyH.nil
   rintro val u2 ⟨hb2, z2, rfl, hz2⟩
   have hN2 := hN1.go hb2
   have hz1 := Znu hb2 hz1
   refine wpAnyH_ready (rs := [5]) (by kernel_rfl) (by simp) ?_
   have hN3 : Nn w (u2.alloc (.cells (two z1 z2) 109)) x := hN2.go (below_new _ _)
   refine Zba 5 27 (.slice (some ⟨u2.heap.size, 0, none⟩) 2 2) rfl rfl (by kernel_rfl) (Zle rfl z1 z2 (by kernel_rfl) (by kernel_rfl)) ⟨hN3.bx, hN3.bel⟩ ?_ AllReadyH.nil
   refine wpAnyH_ready (rs := [6]) (by kernel_rfl) (by simp) ?_
   refine Zcd 6 28 rfl rfl (by kernel_rfl) 116 #[.slice (some ⟨u2.heap.size, 0, none⟩) 2 2] (by kernel_rfl) (R := fun val w' => Below (u2.alloc (.cells (two z1 z2) 109)).heap.size (u2.alloc (.cells (two z1 z2) 109)) w' /\ ∃ y : V, val = .agg #[.bool y.l, .slice y.ba y.bn y.bc, .slice y.ia y.m y.ic] /\ LiesP (fun b => w.heap.size + 2 <= b) w' (.mk true [] [.mk false pk [], .mk false n.v []]) y)
    ((Zh9 (fun b => w.heap.size + 2 <= b) (some ⟨u2.heap.size, 0, none⟩) 2 2 [.mk false pk [], .mk false n.v []] ⟨rfl, Nat.le_refl _, by unfold maxLen; omega, by omega⟩ _ (Zm6 hN2.sz hz1 hz2) (fun e => by cases e) (fun b hb => Nat.le_trans hN3.sz hb)).mono (fun e w' h => by
     obtain ⟨⟨y, e1, hy⟩, hb⟩ := h
     exact ⟨_, e1, hb, y, rfl, hy⟩)) (fun val w' h => ⟨(hN3.go h.1).bx, (hN3.go h.1).bel⟩) ?_ AllReadyH.nil
   rintro val w4 ⟨hb4, z, rfl, hz⟩
   have hN4 := hN3.go hb4
   have hS4 : NBx w.heap.size (((w4.setCell ⟨w.heap.size + 1, 0, none⟩ (.bool z.l)).setCell ⟨w.heap.size + 1, 1, none⟩ (.slice z.ba z.bn z.bc)).setCell ⟨w.heap.size + 1, 2, none⟩ (.slice z.ia z.m z.ic)) x /\ Below w.heap.size w (((w4.setCell ⟨w.heap.size + 1, 0, none⟩ (.bool z.l)).setCell ⟨w.heap.size + 1, 1, none⟩ (.slice z.ba z.bn z.bc)).setCell ⟨w.heap.size + 1, 2, none⟩ (.slice z.ia z.m z.ic)) := ⟨⟨(Zbp (by omega) _ _ _).trans hN4.bx.row, hN4.bx.l⟩, Za0 hN4.bel (by omega) _ _ _⟩
   refine wpAnyH_ready (rs := [7]) (by kernel_rfl) (by simp) ?_
   refine Zbu 7 rfl rfl (by kernel_rfl) (Zlc rfl (w.heap.size + 1) z (by kernel_rfl) (by kernel_rfl) hN4.x0 hN4.x1 hN4.x2 hN4.xf) hS4 ?_ AllReadyH.nil
   refine wpAnyH_done (by kernel_rfl) ?_ _
   refine hkk _ _ <| Zn6 Tryz.results80 (fun h => h) (w.heap.size + 1) z (by kernel_rfl) (by kernel_rfl) (put3 hN4.row _ _ _) ?_
   exact Zek hN4 hz
  ·rw [if_neg h1] at hr
   have hlt : lf = false := by rw [<- HLF.out]; simp [h1]
   subst hlt
   rw [HPKE.out] at hr
   subst hr
   have e1 : (x.k == 1) = false := by simp [h1]
   clear HLF HRES
   go_upto_region 6 with fail
   rename_i KK hkk
   refine wp_region_held_drew (S := fun v' => NBx w.heap.size v' x /\ Below w.heap.size w v') (by kernel_rfl) ⟨⟨HN1.out.bx.row, HN1.out.bx.l⟩, HN1.out.bel.drew⟩ (fun hS => ?_)
   have hN0 : Nn w w1.drew x := ⟨HN1.out.row, ⟨HN1.out.bx.row, HN1.out.bx.l⟩, HN1.out.bel.drew, HN1.out.sz⟩
   refine Zal 0 29 (.slice a' m m) rfl rfl (by kernel_rfl) (by kernel_rfl) (by kernel_rfl) (fun _ _ _ h => h) (by kernel_rfl) (fun v _ => by kernel_rfl) hS <| Zal 2 31 (.pointer (some ⟨w.heap.size, 3, none⟩)) rfl rfl (by kernel_rfl) (by kernel_rfl) (by kernel_rfl) (fun _ _ _ h => h) (by kernel_rfl) (fun v _ => by kernel_rfl) hS <| Zal 3 32 (.agg x.c.cells.toArray) rfl rfl (by kernel_rfl) (by kernel_rfl) (by kernel_rfl) (fun _ _ _ h => h) (by kernel_rfl) (fun v' hv => Zd7 rfl (by kernel_rfl) HH.out.c.len hv.1.child) hS <| wpAnyH_ready (rs := [1]) (by kernel_rfl) (by simp) ?_
   refine Zcd 1 30 rfl rfl (by kernel_rfl) 61 #[.slice a' m m] (by kernel_rfl) (R := fun val w' => Below w1.drew.heap.size w1.drew w' /\ ∃ y : V, val = .agg #[.bool y.l, .slice y.ba y.bn y.bc, .slice y.ia y.m y.ic] /\ LiesP (fun b => w.heap.size + 2 <= b) w' (.mk false pk []) y) ((Zhf a' m m pk w1.drew (HPA.out.at (Below.refl _ _).drew) HPM.out).mono (fun e w' h => Zbx h hN0.sz)) (fun val w' h => ⟨(hN0.go h.1).bx, (hN0.go h.1).bel⟩) ?_ AllReadyH.nil
   rintro val u1 ⟨hb1, z1, rfl, hz1⟩
   have hN1 := hN0.go hb1
   refine wpAnyH_ready (rs := [4]) (by kernel_rfl) (by simp) ?_
   refine Zcd 4 33 rfl rfl (by kernel_rfl) 117 #[.agg x.c.cells.toArray] (by kernel_rfl) (R := fun val w' => Below u1.heap.size u1 w' /\ ∃ y : V, val = .agg #[.bool y.l, .slice y.ba y.bn y.bc, .slice y.ia y.m y.ic] /\ LiesP (fun b => w.heap.size + 2 <= b) w' (refItemP n.c) y) ((Zhn K x.c n.c u1 (HH.out.c.go (Keep.below hN1.bel))).mono (fun e w' h => Zbx h hN1.sz)) (fun val w' h => ⟨(hN1.go h.1).bx, (hN1.go h.1).bel⟩) ?_ AllReadyH.nil
   rintro val u2 ⟨hb2, z2, rfl, hz2⟩
   have hN2 := hN1.go hb2
   have hz1 := Znu hb2 hz1
   refine wpAnyH_ready (rs := [5]) (by kernel_rfl) (by simp) ?_
   have hN3 : Nn w (u2.alloc (.cells (two z1 z2) 109)) x := hN2.go (below_new _ _)
   refine Zba 5 34 (.slice (some ⟨u2.heap.size, 0, none⟩) 2 2) rfl rfl (by kernel_rfl) (Zle rfl z1 z2 (by kernel_rfl) (by kernel_rfl)) ⟨hN3.bx, hN3.bel⟩ ?_ AllReadyH.nil
   refine wpAnyH_ready (rs := [6]) (by kernel_rfl) (by simp) ?_
   refine Zcd 6 35 rfl rfl (by kernel_rfl) 116 #[.slice (some ⟨u2.heap.size, 0, none⟩) 2 2] (by kernel_rfl) (R := fun val w' => Below (u2.alloc (.cells (two z1 z2) 109)).heap.size (u2.alloc (.cells (two z1 z2) 109)) w' /\ ∃ y : V, val = .agg #[.bool y.l, .slice y.ba y.bn y.bc, .slice y.ia y.m y.ic] /\ LiesP (fun b => w.heap.size + 2 <= b) w' (.mk true [] [.mk false pk [], refItemP n.c]) y)
    ((Zh9 (fun b => w.heap.size + 2 <= b) (some ⟨u2.heap.size, 0, none⟩) 2 2 [.mk false pk [], refItemP n.c] ⟨rfl, Nat.le_refl _, by unfold maxLen; omega, by omega⟩ _ (Zm6 hN2.sz hz1 hz2) (fun e => by cases e) (fun b hb => Nat.le_trans hN3.sz hb)).mono (fun e w' h => by
     obtain ⟨⟨y, e1, hy⟩, hb⟩ := h
     exact ⟨_, e1, hb, y, rfl, hy⟩)) (fun val w' h => ⟨(hN3.go h.1).bx, (hN3.go h.1).bel⟩) ?_ AllReadyH.nil
   rintro val w4 ⟨hb4, z, rfl, hz⟩
   have hN4 := hN3.go hb4
   have hS4 : NBx w.heap.size (((w4.setCell ⟨w.heap.size + 1, 0, none⟩ (.bool z.l)).setCell ⟨w.heap.size + 1, 1, none⟩ (.slice z.ba z.bn z.bc)).setCell ⟨w.heap.size + 1, 2, none⟩ (.slice z.ia z.m z.ic)) x /\ Below w.heap.size w (((w4.setCell ⟨w.heap.size + 1, 0, none⟩ (.bool z.l)).setCell ⟨w.heap.size + 1, 1, none⟩ (.slice z.ba z.bn z.bc)).setCell ⟨w.heap.size + 1, 2, none⟩ (.slice z.ia z.m z.ic)) := ⟨⟨(Zbp (by omega) _ _ _).trans hN4.bx.row, hN4.bx.l⟩, Za0 hN4.bel (by omega) _ _ _⟩
   refine wpAnyH_ready (rs := [7]) (by kernel_rfl) (by simp) ?_
   refine Zbu 7 rfl rfl (by kernel_rfl) (Zlc rfl (w.heap.size + 1) z (by kernel_rfl) (by kernel_rfl) hN4.x0 hN4.x1 hN4.x2 hN4.xf) hS4 ?_ AllReadyH.nil
   refine wpAnyH_done (by kernel_rfl) ?_ _
   refine hkk _ _ <| Zn6 Tryz.results80 (fun h => h) (w.heap.size + 1) z (by kernel_rfl) (by kernel_rfl) (put3 hN4.row _ _ _) ?_
   exact Zek hN4 hz
end Go.Proofs.YtefhepcplempkaaGreat
namespace Go.Proofs.YtefhepcplempkaaGreat
open Go.RowKit
def NEP (n : PN) : List Int × Nat := if NR n = true then (NE n, 0) else ([], 50)
theorem Zkr {n : PN} (h : NR n = true) : n.ks.length <= 100 /\ n.p.length <= 1000 := by
 rcases Zg6 h with ⟨_, h1, _, _, _, _, _, h7⟩ | ⟨_, _, h2, _, _, _, _, h7⟩ | ⟨_, h1, _, _, _, h5, _, _⟩
 ·rw [h7]; exact ⟨by simp, by omega⟩
 ·rw [h7]; exact ⟨by simp, by omega⟩
 ·rw [h1]; exact ⟨by omega, by simp⟩
def EPost (w : World) (r : List Int × Nat) : Ending -> World -> Prop := fun e w' => (∃ a m c, e = .returned (.tuple #[.slice a m c, .int .i64 (r.2 : Nat)]) /\ Ag w' a m c r.1 /\ Fr w.heap.size w' a m) /\ Below w.heap.size w w'
set_option maxHeartbeats 4000000 in
theorem Zh2 (K : Nat -> Prop) (x : NV) (n : PN) (w : World) (h : NodeAt K w x n) :
  Calls Tryz.prog 55 #[.agg x.cells.toArray] w (EPost w (NEP n)) := by
 have B := Zcp w x h.c.len
 have HB := Hid.mk (below_new w (.cells x.cells.toArray 68))
 have HR := Hid.mk (show ∀ v, Below w.heap.size w v -> Calls Tryz.prog 79 #[.agg x.cells.toArray] v fun e w' => e = .returned (.bool (NR n)) /\ Below v.heap.size v w' from fun v hv => Zo4 K x n v (h.go (Keep.below hv)))
 obtain ⟨q, hq⟩ : ∃ q, NR n = q := ⟨_, rfl⟩
 have HQ := Hid.mk hq
 have HH := Hid.mk h
 rw [hq] at HR
 obtain ⟨res, hres⟩ : ∃ res, NEP n = res := ⟨_, rfl⟩
 rw [hres]
 unfold NEP at hres
 rw [hq] at hres
 have HRES := Hid.mk hres
 clear h hq hres
 go_enter Tryz.func55, Tryz.ntmps55
 go_upto_region 1 with fail
 refine gen_w (p := fun v => Code.wp _ _ _ _ v) (q := fun v => NBx w.heap.size v x /\ Below w.heap.size w v) ⟨B, HB.out⟩ ?_
 clear B HB
 rintro v ⟨B, hb⟩
 have HB := Hid.mk hb
 have HX := Hid.mk B
 clear hb B
 go_wp2_with (first | refine Za8 rfl _ rfl w.heap.size rfl x HX.out ?_)
 refine (HR.out v HB.out).mono ?_
 rintro e w1 ⟨rfl, hb1⟩
 have HX1 := Hid.mk (HX.out.go hb1)
 have HB1 := Hid.mk (below_go HB.out hb1)
 clear hb1 HX HB
 have hr := HRES.out
 cases q with
 | false =>
  rw [if_neg (by simp)] at hr
  subst hr
  go_wp2_with fail
  go_ret2
  exact ⟨⟨none, 0, 0, rfl, ⟨.inl ⟨rfl, rfl⟩, fun _ => ⟨rfl, rfl⟩, rfl, fun x hx => by cases hx⟩, fun g off e => by cases e⟩, HB1.out⟩
 | true =>
  rw [if_pos rfl] at hr
  subst hr
  obtain ⟨s1, s2⟩ := Zkr HQ.out
  have HIT := Hid.mk (Zpa K x n w1 (HH.out.go (Keep.below HB1.out)) s1 s2)
  obtain ⟨b1, b2, b3⟩ := Zc1 HH.out.okN HQ.out
  have HEP := Hid.mk (Zeo b1)
  clear s1 s2 b1 b2 b3
  go_wp2_with (first | refine Za8 rfl _ rfl w.heap.size rfl x HX1.out ?_)
  refine HIT.out.mono ?_
  rintro e w2 ⟨⟨y, rfl, hy⟩, hb2⟩
  have HEN := Hid.mk (Zga (itemP n) y w2 (Zbd _ _ hy))
  rw [HEP.out] at HEN
  have HB2 := Hid.mk (below_go HB1.out hb2)
  clear hy hb2
  go_wp2_with fail
  refine HEN.out.mono ?_
  rintro e w3 ⟨⟨a, m, c, rfl, hag, hfr⟩, hb3⟩
  have HB3 := Hid.mk (below_go HB2.out hb3)
  have HAG := Hid.mk hag
  have HFR := Hid.mk (show Fr w.heap.size w3 a m from fun g off e h0 => ⟨Nat.le_trans HB2.out.size (hfr g off e h0).1, (hfr g off e h0).2⟩)
  clear hag hfr hb3
  go_wp2_with fail
  go_ret2
  exact ⟨⟨a, m, c, rfl, HAG.out, HFR.out⟩, HB3.out⟩
end Go.Proofs.YtefhepcplempkaaGreat
namespace Go.Proofs.YtefhepcplempkaaGreat
open Go.RowKit
open Di (dref)
theorem Zsh : (fun (d0 d1 d2 d3 d4 d5 d6 d7 d8 d9 d10 d11 d12 d13 d14 d15 d16 d17 d18 d19 d20 d21 d22 d23 d24 d25 d26 d27 d28 d29 d30 d31 : Int) => Tryz.prog.built 65 [(0, .int .i64 2), (1, .agg (B8 [d0, d1, d2, d3, d4, d5, d6, d7, d8, d9, d10, d11, d12, d13, d14, d15, d16, d17, d18, d19, d20, d21, d22, d23, d24, d25, d26, d27, d28, d29, d30, d31]))]) = fun d0 d1 d2 d3 d4 d5 d6 d7 d8 d9 d10 d11 d12 d13 d14 d15 d16 d17 d18 d19 d20 d21 d22 d23 d24 d25 d26 d27 d28 d29 d30 d31 => some (RV.cells ⟨2, [d0, d1, d2, d3, d4, d5, d6, d7, d8, d9, d10, d11, d12, d13, d14, d15, d16, d17, d18, d19, d20, d21, d22, d23, d24, d25, d26, d27, d28, d29, d30, d31], none, 0, 0⟩).toArray := by kernel_rfl
theorem Zij (ds : List Int) (h : ds.length = 32) : Tryz.prog.built 65 [(0, .int .i64 2), (1, .agg (B8 ds))] = some (RV.cells ⟨2, ds, none, 0, 0⟩).toArray := by
 match ds, h with
 | [d0, d1, d2, d3, d4, d5, d6, d7, d8, d9, d10, d11, d12, d13, d14, d15, d16, d17, d18, d19, d20, d21, d22, d23, d24, d25, d26, d27, d28, d29, d30, d31], _ =>
  have e := Zsh
  have e := congrFun e d0
  have e := congrFun e d1
  have e := congrFun e d2
  have e := congrFun e d3
  have e := congrFun e d4
  have e := congrFun e d5
  have e := congrFun e d6
  have e := congrFun e d7
  have e := congrFun e d8
  have e := congrFun e d9
  have e := congrFun e d10
  have e := congrFun e d11
  have e := congrFun e d12
  have e := congrFun e d13
  have e := congrFun e d14
  have e := congrFun e d15
  have e := congrFun e d16
  have e := congrFun e d17
  have e := congrFun e d18
  have e := congrFun e d19
  have e := congrFun e d20
  have e := congrFun e d21
  have e := congrFun e d22
  have e := congrFun e d23
  have e := congrFun e d24
  have e := congrFun e d25
  have e := congrFun e d26
  have e := congrFun e d27
  have e := congrFun e d28
  have e := congrFun e d29
  have e := congrFun e d30
  have e := congrFun e d31
  exact e
def referP (b : List Int) : PR := if b.length < 32 then ⟨1, z32, b⟩ else ⟨2, dref b, []⟩
def RfPost (w : World) (b : List Int) : Ending -> World -> Prop := fun e w' => (∃ y : RV, e = .returned (.agg y.cells.toArray) /\ RefAt (Own w.heap.size w') w' y (referP b)) /\ Below w.heap.size w w'
end Go.Proofs.YtefhepcplempkaaGreat
namespace Go.Proofs.YtefhepcplempkaaGreat
open Go.RowKit
open Tr
namespace Tr
def encT : Tr -> List Int
 | no => []
 | leaf p v => (NEP ⟨1, p, v, r0, []⟩).1
 | ext p c => (NEP ⟨2, p, [], referP (encT c), []⟩).1
 | br k x => (NEP ⟨3, [], x, r0, (List.range 16).map fun i => if (k i).isNo then r0 else referP (encT (k i))⟩).1
def nm1 (b : List Int) : List (List Int) := if b.length < 32 then [] else [b]
def nmd : Tr -> List (List Int)
 | no => []
 | leaf _ _ => []
 | ext _ c => nmd c ++ nm1 (encT c)
 | br k _ => (List.range 16).flatMap fun i => if (k i).isNo then [] else nmd (k i) ++ nm1 (encT (k i))
end Tr
def nodeP : Tr -> PN
 | no => n0
 | leaf p v => ⟨1, p, v, r0, []⟩
 | ext p c => ⟨2, p, [], referP (encT c), []⟩
 | br k x => ⟨3, [], x, r0, (List.range 16).map fun i => if (k i).isNo then r0 else referP (encT (k i))⟩
theorem Zif {t : Tr} (h : t ≠ no) : encT t = (NEP (nodeP t)).1 := by
 cases t with
 | no => exact absurd rfl h
 | leaf p v => rfl
 | ext p c => rfl
 | br k x => rfl
def KW (gW : Nat) (vN : Value) (X : Nat -> Prop) : Nat -> Prop := fun b => b ≠ gW /\ vN.ownBlock ≠ some b /\ X b
def RowS (K : Nat -> Prop) (w : World) (vals : List Value) (ns : List (List Int)) : Prop := vals.length = ns.length /\ ∀ j v, vals[j]? = some v -> ∃ a n c, v = .slice a n c /\ Sk K w a n c (ns.getD j [])
structure Wt (w : World) (gW base : Nat) (vN : Value) (X : Nat -> Prop) (ns : List (List Int)) : Prop where
 r : Rw gW w #[vN] 80
 o : ∃ vals, w.ownsRow base 23 1 vN ns.length vals /\ RowS (KW gW vN X) w vals ns
 b : base <= gW
structure Wg (w w' : World) (gW : Nat) (vN vN' : Value) : Prop where
 os : w'.os = w.os
 tape : w'.tape = w.tape
 output : w'.output = w.output
 size : w.heap.size <= w'.heap.size
 block : ∀ k, k < w.heap.size -> k ≠ gW -> vN.ownBlock ≠ some k -> w'.heap[k]? = w.heap[k]?
 own : vN'.ownBlock = vN.ownBlock \/ ∀ k, vN'.ownBlock = some k -> w.heap.size <= k
theorem Wg.of_below {w w' : World} {gW : Nat} {vN : Value} (h : Bl w w') : Wg w w' gW vN vN := ⟨Below.os h, Below.tape h, Below.output h, h.size, fun k hk _ _ => Below.block h k hk, .inl rfl⟩
theorem Wg.trans {w w1 w2 : World} {gW : Nat} {v v1 v2 : Value} (h : Wg w w1 gW v v1) (g : Wg w1 w2 gW v1 v2) : Wg w w2 gW v v2 := by
 refine ⟨g.os.trans h.os, g.tape.trans h.tape, g.output.trans h.output, Nat.le_trans h.size g.size, fun k hk hg hv => ?_, ?_⟩
 ·refine (g.block k (Nat.lt_of_lt_of_le hk h.size) hg ?_).trans (h.block k hk hg hv)
  rcases h.own with e | e
  ·rw [e]; exact hv
  ·intro q; have := e k q; omega
 ·rcases g.own with e | e
  ·rcases h.own with e2 | e2
   ·exact .inl (e.trans e2)
   ·exact .inr (fun k hk => e2 k (e ▸ hk))
  ·exact .inr (fun k hk => Nat.le_trans h.size (e k hk))
theorem Wg.row {w w' : World} {gW base : Nat} {X : Nat -> Prop} {vN vN' : Value} {ns : List (List Int)} (h : Wg w w' gW vN vN') (hw : Wt w gW base vN X ns) {g : Nat} {cells : Array Value} {T : TypeId} {fr : Nat × Nat} (hr : w.heap[g]? = some (.cells cells T fr)) (h1 : T ≠ 23) (h2 : T ≠ 80) : w'.heap[g]? = some (.cells cells T fr) := by
 refine (h.block g (lt_of_get hr) ?_ ?_).trans hr
 ·rintro rfl
  have := hw.r
  rw [Rw, hr] at this
  simp at this
  exact h2 this.2.1
 ·intro e
  obtain ⟨vals, ⟨_, ho⟩, _⟩ := hw.o
  rcases ho with ⟨rfl, _⟩ | ⟨g', cap, cur, rfl, _, hg, _⟩
  ·cases e
  ·have e : g' = g := by simpa [Value.ownBlock] using e
   subst e
   rw [hr] at hg
   simp at hg
   exact h1 hg.2.1
theorem Rw.wg {w w' : World} {gW base : Nat} {X : Nat -> Prop} {vN vN' : Value} {ns : List (List Int)} {g : Nat} {cells : Array Value} {T : TypeId} (h : Rw g w cells T) (hg : Wg w w' gW vN vN') (hw : Wt w gW base vN X ns) (h1 : T ≠ 23) (h2 : T ≠ 80) : Rw g w' cells T := hg.row hw h h1 h2
theorem Wt.go {w w' : World} {gW base : Nat} {X : Nat -> Prop} {vN : Value} {ns : List (List Int)} (h : Wt w gW base vN X ns) (hb : Below w.heap.size w w') : Wt w' gW base vN X ns := by
 obtain ⟨vals, h1, h2, h3⟩ := h.o
 refine ⟨h.r.go hb, ⟨vals, ⟨h1.1, by
  rcases h1.2 with q | ⟨g, cap, cur, e1, e2, e3, e4⟩
  ·exact .inl q
  ·exact .inr ⟨g, cap, cur, e1, e2, (hb.block g (lt_of_get e3)).trans e3, e4⟩⟩, h2, fun j v hj => ?_⟩, h.b⟩
 obtain ⟨a, n, c, e, hs⟩ := h3 j v hj
 exact ⟨a, n, c, e, hs.go hb⟩
theorem Wt.lt {w : World} {gW base : Nat} {X : Nat -> Prop} {vN : Value} {ns : List (List Int)} (h : Wt w gW base vN X ns) : gW < w.heap.size /\ ∀ k, vN.ownBlock = some k -> k < w.heap.size := by
 refine ⟨lt_of_get h.r, fun k hk => ?_⟩
 obtain ⟨vals, ⟨_, ho⟩, _⟩ := h.o
 rcases ho with ⟨rfl, _⟩ | ⟨g', cap, cur, rfl, _, hg, _⟩
 ·cases hk
 ·have e : g' = k := by simpa [Value.ownBlock] using hk
  subst e
  exact lt_of_get hg
theorem infoB : ∃ i, Tryz.prog.info? 23 = some i /\ i.zero = some (.slice none 0 0) /\ i.size = 1 /\ i.bytes = 24 := by
 have h : (Tryz.prog.info? 23).map (fun i => (i.zero, i.size, i.bytes)) = some (some (.slice none 0 0), 1, 24) := by kernel_rfl
 cases hq : Tryz.prog.info? 23 with
 | none => rw [hq] at h; simp at h
 | some i => rw [hq] at h; simp at h; exact ⟨i, rfl, h.1, h.2.1, h.2.2⟩
theorem Zfk {P : Program} {ρ : Operand -> Value} {w : World} {o : Oper} (t : TypeId) (parts : Array (Nat × Operand)) (l : List (Nat × Value)) (cells : Array Value) (ho : o.op = .build t parts) (hl : (parts.map fun (i, x) => (i, ρ x)).toList = l) (hf : P.built t l = some cells) : (execOp ρ o).run P w = .ok (.value (.agg cells)) w := by
 unfold execOp
 rw [ho]
 have := run_build (P := P) w t (parts.map fun (i, x) => (i, ρ x)) cells (by rw [hl]; exact hf)
 simp only [Sem.run_bind, this, Result.andThen_ok, Sem.run_pure]
theorem Zcl {y : NV} (h : y.c.d.length = 32) : y.cells.toArray.size = 38 := by rw [List.size_toArray, NV.len h]
theorem Zk8 {fn : Func} {p : Tmp} {f : Nat -> Value} (h : fn.results = #[.cell p 68]) (w : World) (g : Nat) (y : NV) (hl : y.c.d.length = 32) (hp : f p = .pointer (some ⟨g, 0, none⟩)) (hg : Rw g w y.cells.toArray 68) : (resF f fn.results).run Tryz.prog w = .ok (.agg y.cells.toArray) w := by
 have := run_loadVar_row (P := Tryz.prog) w g 68 68 _ _ _ hg Tryz.underlying68 rfl (by rw [Zdz, Zcl hl])
 unfold resF
 rw [h]
 simp [hp, this, asAddr]
theorem Sk.agk {K : Nat -> Prop} {w : World} {a : Option Addr} {n c : Nat} {bs : List Int} (h : Sk K w a n c bs) (hn : n <= 140737488351232) : AgK (fun _ => True) w a n c bs := ⟨h.ag, hn, fun _ _ _ _ => trivial⟩
def RNd (w : World) (gW base : Nat) (vN : Value) (X : Nat -> Prop) (ns : List (List Int)) (t : Tr) : Value -> World -> Prop := fun u w' => ∃ (y : NV) (vN' : Value), u = .agg y.cells.toArray /\ NodeAt (fun _ => True) w' y (nodeP t) /\ Wt w' gW base vN' X (ns ++ nmd t) /\ Wg w w' gW vN vN'
def REn (w : World) (gW base : Nat) (vN : Value) (X : Nat -> Prop) (ns : List (List Int)) (t : Tr) : Value -> World -> Prop := fun u w' => ∃ (a : Option Addr) (n c : Nat) (vN' : Value), u = .slice a n c /\ Sk (KW gW vN' (fun b => w.heap.size <= b)) w' a n c (encT t) /\ Wt w' gW base vN' X (ns ++ nmd t) /\ Wg w w' gW vN vN' /\ (encT t).length <= 65540
theorem Sk.fresh {K : Nat -> Prop} {w v w' : World} {gW base : Nat} {X : Nat -> Prop} {vN : Value} {ns : List (List Int)} {a : Option Addr} {n c : Nat} {bs : List Int} (h : Sk (fun b => v.heap.size <= b) w' a n c bs) (hw : Wt v gW base vN X ns) (hs : w.heap.size <= v.heap.size) : Sk (KW gW vN (fun b => w.heap.size <= b)) w' a n c bs :=
 h.mono (fun b hb => ⟨fun e => by have := hw.lt.1; omega, fun e => by have := hw.lt.2 b e; omega, Nat.le_trans hs hb⟩)
end Go.Proofs.YtefhepcplempkaaGreat

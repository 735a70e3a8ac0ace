/- The document's Encode of a branch. -/
import Derived.Test.YtdkpilgelgjieaaGreatG25
import Derived.Test.YtdkpilgelgjieaaGreatG26
import Derived.Test.YtdkpilgelgjieaaGreatG27
import Derived.Test.YtdkpilgelgjieaaGreatG22
import Derived.Test.YtdkpilgelgjieaaGreatG24
import Derived.Test.YtdkpilgelgjieaaGreatG16
import Derived.Test.YtdkpilgelgjieaaGreatG02
import Derived.Deep.RegionLaw
set_option linter.unusedVariables false
set_option maxRecDepth 100000
namespace Go.Proofs.YtdkpilgelgjieaaGreat
open Go.RowKit
section
variable {a : Act} {w : World}
theorem Zdo {x : Operand} {o : Oper} (ho : o.op = .buildSlice 92 1 #[(0, x)]) (p : V) (hx : a.eval x = .agg #[.bool p.l, .slice p.ba p.bn p.bc, .slice p.ia p.m p.ic]) :
  (execOp a.eval o).run Tryz.prog w = .ok (.value (.slice (some ⟨w.heap.size, 0, none⟩) 1 1)) (w.alloc (.cells #[.bool p.l, .slice p.ba p.bn p.bc, .slice p.ia p.m p.ic] 94)) := by
 unfold execOp
 rw [ho]
 simp only [List.map_toArray, List.map_cons, List.map_nil, hx]
 go_simp
theorem Zf9 {w' : World} {s x : Operand} {o : Oper} (ho : o.op = .call { callee := .builtin .append, args := #[s, x], argTypes := #[92, 92] }) (v u : Value) (hd : a.eval s = v) (hx : a.eval x = u) {v' : Value}
  (hr : (Builtin.append_ #[92, 92] o.type #[v, u]).run Tryz.prog w = .ok v' w') : (execOp a.eval o).run Tryz.prog w = .ok (.value v') w' := by
 simp [execOp, ho, resolve, invoke, builtin, hd, hx, hr, Result.andThen]
theorem Zdn {x y : Operand} {o : Oper} (ho : o.op = .store 92 x y) (g : Nat) (it old : Value) (h1 : ∃ ia m ic, it = .slice ia m ic) (hx : a.eval x = .pointer (some ⟨g, 2, none⟩)) (hy : a.eval y = it) (hc : w.cell? ⟨g, 2, none⟩ = some old) (hf : ∀ o, w.frozen? ⟨g, o, none⟩ = false) :
  (execOp a.eval o).run Tryz.prog w = .ok .skip (w.setCell ⟨g, 2, none⟩ it) := by
 obtain ⟨ia, m, ic, rfl⟩ := h1
 unfold execOp
 rw [ho]
 simp only [hx, hy]
 go_simp
end
theorem So.one {gI : Nat} {v : World} {it : Value} {ts : List T} (h : So gI v it ts) : ∃ ia m ic, it = .slice ia m ic := by
 obtain ⟨ia, ic, e, _⟩ := h.full (w := v)
 exact ⟨ia, _, ic, e⟩
def EEPost (w : World) (n : PN) : Ending -> World -> Prop := fun e w' => (∃ a m c, e = .returned (.tuple #[.slice a m c, .int .i64 (if NR n = true then 0 else 50)]) /\ Ag w' a m c (if NR n = true then NE n else []) /\ Nw w.heap.size a) /\ Below w.heap.size w w'
theorem Zf0 {gI : Nat} {w u : World} {it : Value} {TS : List T} {n : PN} (hF : Full gI w u it TS) (hlen : TS.length <= 1000) (ht : .mk true [] TS = itemP n) (hb : (mP (itemP n)).2 = 0) :
  ∃ ia m ic, it = .slice ia m ic /\ Calls Tryz.prog 79 #[.agg #[.bool true, .slice none 0 0, .slice ia m ic]] u fun e w' => (∃ a m c, e = .returned (.tuple #[.slice a m c, .int .i64 0]) /\ Ag w' a m c (NE n) /\ Nw u.heap.size a) /\ Below u.heap.size u w' := by
 obtain ⟨ia, ic, rfl, f1, f2, f3⟩ := hF
 refine ⟨ia, _, ic, rfl, (Zh6 (.mk true [] TS) ⟨true, none, 0, 0, ia, TS.length, ic⟩ u (lies_eq.2 ⟨rfl, ⟨.inl ⟨rfl, rfl⟩, fun _ => ⟨rfl, rfl⟩, rfl, fun x hx => by cases hx⟩, rfl, f1, f2, ⟨Nat.zero_le _, by show TS.length <= _; omega⟩, f3⟩)).mono ?_⟩
 rw [ht, Zex hb]
 rintro e w' ⟨⟨a, m, c, e1, e2, e4⟩, e3⟩
 exact ⟨⟨a, m, c, e1, e2, e4 rfl⟩, e3⟩
theorem En.drew {w v : World} {x : NV} {gI : Nat} {it : Value} (h : En w v x gI it) : En w v.drew x gI it := h.all (Below.refl _ _).drew
theorem Zyu {n : PN} (h : NR n = true) (h3 : n.k = 3) : n.ks.length = 16 := by
 unfold NR nright rkidsP at h
 by_cases h16 : n.ks.length = 16
 ·exact h16
 ·simp [h3, h16] at h
set_option maxHeartbeats 8000000 in
theorem Zux (K : Nat -> Prop) (x : NV) (n : PN) (w : World) (h : NodeAt K w x n) (h3 : n.k = 3) (hd : ∀ r, (r = n.c \/ r ∈ n.ks) -> r.i.length < 32 -> DDSaid r.i) :
  Calls Tryz.prog 65 #[.agg x.cells.toArray] w (EEPost w n) := by
 have B := Zcw w x h.c.len
 have HB := Hid.mk (below_new w (.cells x.cells.toArray 104))
 have HH := Hid.mk h
 obtain ⟨q, hq⟩ : ∃ q, NR n = q := ⟨_, rfl⟩
 have HR1 := Hid.mk (show ∀ v, Below w.heap.size w v -> Calls Tryz.prog 76 #[.agg x.cells.toArray] v fun e w' => e = .returned (.bool q) /\ Below v.heap.size v w' from fun v hv => by
  rw [<- hq]; exact Zfp K x n v (h.go (Keep.below hv)) hd)
 have HQ := Hid.mk hq
 have hk3 : x.k = 3 := by rw [h.k]; exact h3
 have hvn := h.v.2.1
 unfold EEPost
 rw [hq]
 have H3 := Hid.mk h3
 clear h hq hd h3
 go_enter Tryz.func65, Tryz.ntmps65
 go_upto_region 1 with fail
 refine gen_w (p := fun v => Code.wp _ _ _ _ v) (q := fun v => NBx w.heap.size v x /\ Below w.heap.size w v) ⟨B, HB.out⟩ ?_
 clear B HB
 rintro v ⟨B, hb⟩
 have HB := Hid.mk hb
 have HX := Hid.mk B
 clear hb B
 go_wp2_with (first | refine Za8 rfl _ rfl w.heap.size rfl x HX.out ?_)
 refine (HR1.out v HB.out).mono ?_
 rintro e w1 ⟨rfl, hb1⟩
 have HX1 := Hid.mk (HX.out.go hb1)
 have HB1 := Hid.mk (below_go HB.out hb1)
 clear hb1 HX HB
 cases q with
 | false =>
  go_wp2_with fail
  go_ret2
  exact ⟨⟨none, 0, 0, rfl, ⟨.inl ⟨rfl, rfl⟩, fun _ => ⟨rfl, rfl⟩, rfl, fun x hx => by cases hx⟩, fun g off h => by cases h⟩, HB1.out⟩
 | true =>
  obtain ⟨b1, b2, b3⟩ := Zc5 HH.out.okN HQ.out
  have HM := Hid.mk b1
  have hks := Zyu HQ.out H3.out
  have HKS := Hid.mk hks
  have H16 := Hid.mk (show x.kn = 16 from by rw [HH.out.m.1]; exact hks)
  have HLT := Hid.mk (show w.heap.size < w1.heap.size from (Array.getElem?_eq_some_iff.1 HX1.out.row).1)
  clear b1 b2 b3 hks
  go_upto_region 5 with fail
  obtain ⟨gI, hgI⟩ : ∃ gI, w1.heap.size = gI := ⟨_, rfl⟩
  refine gen_w (p := fun v => Code.wp _ _ _ _ v) (q := fun v => En w v x gI (.slice none 0 0)) ⟨by rw [<- hgI]; exact heap_alloc_new _ _, HX1.out.go (below_new _ _), below_go HB1.out (below_new _ _), by rw [<- hgI]; exact HLT.out, by simp [hgI]⟩ ?_
  intro v2 E2
  rw [hgI]
  have c0 := E2.bx.c0
  rw [hk3] at c0
  have HE2 := Hid.mk E2
  clear E2 HX1 HB1 HLT hgI
  go_wp2_with fail
  go_loopw [6] (fun s6 u => ∃ (j : Nat) (it : Value), j <= 16 /\ s6 = .int .i64 j /\ En w u x gI it /\ So gI u it ((n.ks.take j).map refItemP)) (fun s6 _ => 16 - (intOf s6).toNat)
  case atStart => exact ⟨0, _, by omega, rfl, HE2.out, Zy7 _ _⟩
  case round =>
   obtain ⟨j, it, hj, rfl, hE, hSO⟩ := hrel
   have HE := Hid.mk hE
   have HSO := Hid.mk hSO
   clear hE hSO HE2 c0
   by_cases hlt : j < 16
   ·have hji : (j : Int) < 16 := by omega
    obtain ⟨r, hr⟩ : ∃ r, n.ks[j]? = some r := ⟨_, List.getElem?_eq_getElem (by rw [HKS.out]; exact hlt)⟩
    obtain ⟨g, off, y, hka, _, hrg, hy⟩ := HH.out.ks j r hr
    have HKA := Hid.mk hka
    have HRG := Hid.mk hrg
    have HL := Hid.mk hy.len
    have HY := Hid.mk hy
    have HR := Hid.mk hr
    clear hrg hy hr hka
    go_upto_region 9 with fail
    rename_i KK hkk
    refine wp_region_held_drew (S := fun v' => NBx w.heap.size v' x /\ Below w.heap.size w v') (by kernel_rfl) ⟨⟨HE.out.bx.row, HE.out.bx.l⟩, HE.out.bel.drew⟩ (fun hS => ?_)
    have hE0 := HE.out.drew
    refine Zaj 0 23 (.pointer (some ⟨gI, 2, none⟩)) rfl rfl (by kernel_rfl) (by kernel_rfl) (by kernel_rfl) (fun _ _ _ h => h) (by kernel_rfl) (fun v _ => by kernel_rfl) hS <| Zaj 2 25 (.pointer (some ⟨w.heap.size, 37, none⟩)) rfl rfl (by kernel_rfl) (by kernel_rfl) (by kernel_rfl) (fun _ _ _ h => h) (by kernel_rfl) (fun v _ => by kernel_rfl) hS <| Zaj 3 26 (.slice (some ⟨g, off, none⟩) 16 x.kc) rfl rfl (by kernel_rfl) (by kernel_rfl) (by kernel_rfl) (fun _ _ _ h => h) (by kernel_rfl) (fun v' hv => Zhf rfl (by kernel_rfl) (by rw [<- HKA.out, <- H16.out]; exact hv.1.c37)) hS <| Zaj 4 27 (.int .i64 j) rfl rfl (by kernel_rfl) (by kernel_rfl) (by kernel_rfl) (fun _ _ _ h => h) (by kernel_rfl) (fun v _ => by kernel_rfl) hS <| Zaj 5 28 (.pointer (some ⟨g, off + j * 34, none⟩)) rfl rfl (by kernel_rfl) (by kernel_rfl) (by kernel_rfl) (fun _ _ _ h => h) (by kernel_rfl) (fun v' _ => Zru (m := 16) (c := x.kc) rfl (by kernel_rfl) (by kernel_rfl) hlt) hS <| Zaj 6 29 (.agg y.cells.toArray) rfl rfl (by kernel_rfl) (by kernel_rfl) (by kernel_rfl) (fun _ _ _ h => h) (by kernel_rfl) (fun v' hv => Zec rfl (by kernel_rfl) HL.out (Zco HRG.out (fun hl => hv.2.block g hl))) hS <| wpAnyH_ready (rs := [1, 7]) (by kernel_rfl) (by simp) ?_
    refine Zbd 1 24 it rfl rfl (by kernel_rfl) (Zbh rfl (by kernel_rfl) hE0.c2) hS ?_ ?_
    ·refine wpAnyH_ready (rs := [7]) (by kernel_rfl) (by simp) ?_
     refine Zci 7 30 rfl rfl (by kernel_rfl) 77 #[.agg y.cells.toArray] (by kernel_rfl) (R := fun val w' => Below wr.drew.heap.size wr.drew w' /\ ∃ z : V, val = .agg #[.bool z.l, .slice z.ba z.bn z.bc, .slice z.ia z.m z.ic] /\ LiesP (fun b => wr.drew.heap.size <= b) w' (refItemP r) z) ((Zfk K y r wr.drew (HY.out.go (Keep.below hS.2))).mono (fun e w' h => Zb0 h (Nat.le_refl _))) (fun val w' h => ⟨hS.1.go h.1, below_go hS.2 h.1⟩) ?_ AllReadyH.nil
     rintro val u1 ⟨hb1, z, rfl, hz⟩
     have hS1 : NBx w.heap.size u1 x /\ Below w.heap.size w u1 := ⟨hS.1.go hb1, below_go hS.2 hb1⟩
     have hE1 := hE0.all hb1
     obtain ⟨v', w3, hrun, hso3, hb3⟩ := Zv5 hE0.sz (HSO.out.all (Below.refl _ _).drew) hb1 hz (by rw [List.length_map, List.length_take]; omega) 92
     have hE2 : En w (u1.alloc (.cells #[.bool z.l, .slice z.ba z.bn z.bc, .slice z.ia z.m z.ic] 94)) x gI it := hE1.all (below_new _ _)
     have hE3 := hE0.go hb3
     have hE4 := hE3.put v'
     have hSO4 := hso3.put v'
     refine wpAnyH_ready (rs := [8]) (by kernel_rfl) (by simp) ?_
     refine Zbd 8 31 (.slice (some ⟨u1.heap.size, 0, none⟩) 1 1) rfl rfl (by kernel_rfl) (Zdo rfl z (by kernel_rfl)) ⟨hE2.bx, hE2.bel⟩ ?_ AllReadyH.nil
     refine wpAnyH_ready (rs := [9]) (by kernel_rfl) (by simp) ?_
     refine Zbd 9 32 v' rfl rfl (by kernel_rfl) (Zf9 rfl it (.slice (some ⟨u1.heap.size, 0, none⟩) 1 1) (by kernel_rfl) (by kernel_rfl) hrun) ⟨hE3.bx, hE3.bel⟩ ?_ AllReadyH.nil
     refine Zaj 10 33 (.pointer (some ⟨gI, 2, none⟩)) rfl rfl (by kernel_rfl) (by kernel_rfl) (by kernel_rfl) (fun _ _ _ h => h) (by kernel_rfl) (fun v _ => by kernel_rfl) ⟨hE3.bx, hE3.bel⟩ <| wpAnyH_ready (rs := [11]) (by kernel_rfl) (by simp) ?_
     refine Zbz 11 rfl rfl (by kernel_rfl) (Zdn rfl gI v' it hso3.one (by kernel_rfl) (by kernel_rfl) hE3.c2 hE3.fz) ⟨hE4.bx, hE4.bel⟩ ?_ AllReadyH.nil
     refine wpAnyH_done (by kernel_rfl) ?_ _
     refine hkk _ _ ?_
     have HE4 := Hid.mk hE4
     have HSO4 := Hid.mk (show So gI (w3.setCell ⟨gI, 2, none⟩ v') v' ((n.ks.take (j + 1)).map refItemP) from by rw [Zbw HR.out, List.map_append]; exact hSO4)
     clear hE4 hSO4 hE3 hE2 hE1 hE0 hS hS1 hso3 hb3 hrun hz hb1 hkk
     go_frame
     go_wp2_with fail
     exact ⟨⟨j + 1, v', by omega, by simp, HE4.out, HSO4.out⟩, by simp [intOf]; omega⟩
    refine Zci 7 30 rfl rfl (by kernel_rfl) 77 #[.agg y.cells.toArray] (by kernel_rfl) (R := fun val w' => Below wr.drew.heap.size wr.drew w' /\ ∃ z : V, val = .agg #[.bool z.l, .slice z.ba z.bn z.bc, .slice z.ia z.m z.ic] /\ LiesP (fun b => wr.drew.heap.size <= b) w' (refItemP r) z) ((Zfk K y r wr.drew (HY.out.go (Keep.below hS.2))).mono (fun e w' h => Zb0 h (Nat.le_refl _))) (fun val w' h => ⟨hS.1.go h.1, below_go hS.2 h.1⟩) ?_ AllReadyH.nil
    rintro val u1 ⟨hb1, z, rfl, hz⟩
    have hS1 : NBx w.heap.size u1 x /\ Below w.heap.size w u1 := ⟨hS.1.go hb1, below_go hS.2 hb1⟩
    have hE1 := hE0.all hb1
    obtain ⟨v', w3, hrun, hso3, hb3⟩ := Zv5 hE0.sz (HSO.out.all (Below.refl _ _).drew) hb1 hz (by rw [List.length_map, List.length_take]; omega) 92
    have hE2 : En w (u1.alloc (.cells #[.bool z.l, .slice z.ba z.bn z.bc, .slice z.ia z.m z.ic] 94)) x gI it := hE1.all (below_new _ _)
    have hE3 := hE0.go hb3
    have hE4 := hE3.put v'
    have hSO4 := hso3.put v'
    refine wpAnyH_ready (rs := [1, 8]) (by kernel_rfl) (by simp) ?_
    refine Zbd 1 24 it rfl rfl (by kernel_rfl) (Zbh rfl (by kernel_rfl) hE1.c2) hS1 ?_ ?_
    ·refine wpAnyH_ready (rs := [8]) (by kernel_rfl) (by simp) ?_
     refine Zbd 8 31 (.slice (some ⟨u1.heap.size, 0, none⟩) 1 1) rfl rfl (by kernel_rfl) (Zdo rfl z (by kernel_rfl)) ⟨hE2.bx, hE2.bel⟩ ?_ AllReadyH.nil
     refine wpAnyH_ready (rs := [9]) (by kernel_rfl) (by simp) ?_
     refine Zbd 9 32 v' rfl rfl (by kernel_rfl) (Zf9 rfl it (.slice (some ⟨u1.heap.size, 0, none⟩) 1 1) (by kernel_rfl) (by kernel_rfl) hrun) ⟨hE3.bx, hE3.bel⟩ ?_ AllReadyH.nil
     refine Zaj 10 33 (.pointer (some ⟨gI, 2, none⟩)) rfl rfl (by kernel_rfl) (by kernel_rfl) (by kernel_rfl) (fun _ _ _ h => h) (by kernel_rfl) (fun v _ => by kernel_rfl) ⟨hE3.bx, hE3.bel⟩ <| wpAnyH_ready (rs := [11]) (by kernel_rfl) (by simp) ?_
     refine Zbz 11 rfl rfl (by kernel_rfl) (Zdn rfl gI v' it hso3.one (by kernel_rfl) (by kernel_rfl) hE3.c2 hE3.fz) ⟨hE4.bx, hE4.bel⟩ ?_ AllReadyH.nil
     refine wpAnyH_done (by kernel_rfl) ?_ _
     refine hkk _ _ ?_
     have HE4 := Hid.mk hE4
     have HSO4 := Hid.mk (show So gI (w3.setCell ⟨gI, 2, none⟩ v') v' ((n.ks.take (j + 1)).map refItemP) from by rw [Zbw HR.out, List.map_append]; exact hSO4)
     clear hE4 hSO4 hE3 hE2 hE1 hE0 hS hS1 hso3 hb3 hrun hz hb1 hkk
     go_frame
     go_wp2_with fail
     exact ⟨⟨j + 1, v', by omega, by simp, HE4.out, HSO4.out⟩, by simp [intOf]; omega⟩
    refine Zbd 8 31 (.slice (some ⟨u1.heap.size, 0, none⟩) 1 1) rfl rfl (by kernel_rfl) (Zdo rfl z (by kernel_rfl)) ⟨hE2.bx, hE2.bel⟩ ?_ AllReadyH.nil
    refine wpAnyH_ready (rs := [1]) (by kernel_rfl) (by simp) ?_
    refine Zbd 1 24 it rfl rfl (by kernel_rfl) (Zbh rfl (by kernel_rfl) hE2.c2) ⟨hE2.bx, hE2.bel⟩ ?_ AllReadyH.nil
    refine wpAnyH_ready (rs := [9]) (by kernel_rfl) (by simp) ?_
    refine Zbd 9 32 v' rfl rfl (by kernel_rfl) (Zf9 rfl it (.slice (some ⟨u1.heap.size, 0, none⟩) 1 1) (by kernel_rfl) (by kernel_rfl) hrun) ⟨hE3.bx, hE3.bel⟩ ?_ AllReadyH.nil
    refine Zaj 10 33 (.pointer (some ⟨gI, 2, none⟩)) rfl rfl (by kernel_rfl) (by kernel_rfl) (by kernel_rfl) (fun _ _ _ h => h) (by kernel_rfl) (fun v _ => by kernel_rfl) ⟨hE3.bx, hE3.bel⟩ <| wpAnyH_ready (rs := [11]) (by kernel_rfl) (by simp) ?_
    refine Zbz 11 rfl rfl (by kernel_rfl) (Zdn rfl gI v' it hso3.one (by kernel_rfl) (by kernel_rfl) hE3.c2 hE3.fz) ⟨hE4.bx, hE4.bel⟩ ?_ AllReadyH.nil
    refine wpAnyH_done (by kernel_rfl) ?_ _
    refine hkk _ _ ?_
    have HE4 := Hid.mk hE4
    have HSO4 := Hid.mk (show So gI (w3.setCell ⟨gI, 2, none⟩ v') v' ((n.ks.take (j + 1)).map refItemP) from by rw [Zbw HR.out, List.map_append]; exact hSO4)
    clear hE4 hSO4 hE3 hE2 hE1 hE0 hS hS1 hso3 hb3 hrun hz hb1 hkk
    go_frame
    go_wp2_with fail
    exact ⟨⟨j + 1, v', by omega, by simp, HE4.out, HSO4.out⟩, by simp [intOf]; omega⟩
   ·have hji : ¬ (j : Int) < 16 := by omega
    have hso := HSO.out
    rw [List.take_of_length_le (by rw [HKS.out]; omega)] at hso
    have d2 := HE.out.c2
    have e2 := HE.out.bx.c2
    have ef := HE.out.fz
    obtain ⟨v', w3, hrun, hb3, hfull⟩ := Zxc (t := .mk false n.v []) (y := ⟨false, x.va, x.vn, x.vc, none, 0, 0⟩) HE.out hso (Below.refl _ _) (lies_eq.2 ⟨rfl, HH.out.v.1, rfl, Nat.le_refl _, Nat.zero_le _, ⟨HH.out.v.2.1, Nat.zero_le _⟩, Zbm⟩) (by rw [List.length_map, HKS.out]; omega) 92
    have hE3 := HE.out.go hb3
    have f2 := hE3.c2
    have ff := hE3.fz
    have HE4 := Hid.mk (hE3.put v')
    obtain ⟨ia, m, ic, hv', hen⟩ := Zf0 (n := n) hfull (by rw [List.length_append, List.length_map, HKS.out]; simp) (by unfold itemP; rw [if_pos H3.out]) HM.out
    subst hv'
    have HRUN := Hid.mk hrun
    have HEN := Hid.mk hen
    clear hso hrun hb3 hfull hE3 hen
    go_upto_region 16 with (first | refine Zcc rfl _ _ rfl _ _ rfl rfl HRUN.out ?_)
    generalize w3.setCell ⟨gI, 2, none⟩ (.slice ia m ic) = u4 at HE4 HEN ⊢
    have k0 := HE4.out.c0
    have k1 := HE4.out.c1
    have k2 := HE4.out.c2
    clear d2 e2 ef f2 ff
    go_wp2_with fail
    refine HEN.out.mono ?_
    rintro e w5 ⟨⟨a, m5, c5, rfl, hag, hnw⟩, hb5⟩
    have HAG := Hid.mk hag
    have HNW := Hid.mk (hnw.mono HE4.out.bel.size)
    have HB5 := Hid.mk (below_go HE4.out.bel hb5)
    clear hag hb5 hnw
    go_wp2_with fail
    go_ret2
    exact ⟨⟨a, m5, c5, rfl, HAG.out, HNW.out⟩, HB5.out⟩
end Go.Proofs.YtdkpilgelgjieaaGreat
namespace Go.Proofs.YtdkpilgelgjieaaGreat.Ni
open Go.RowKit
theorem Zun {ops : Array Oper} {o : Oper} {a : Act} {w : World} {K : Act -> World -> Prop} {Q : Exit -> Act -> World -> Prop} {E : Prop} (hgd : o.guard = none) (s x : Operand)
  (ho : o.op = .call { callee := .builtin .append, args := #[s, x], argTypes := #[32, 32] }) (base : Nat) (v : Value) (bs : List Int) (hs : a.eval s = v) (hown : OwnB w base v bs)
  (ad : Addr) (m c : Nat) (news : List Int) (hx : a.eval x = .slice (some ad) m c) (hl : news.length = m) (hnews : ∀ j u, (news.map (Value.int .u8))[j]? = some u -> w.cell? (ad.add j) = some u)
  (hbytes : bs.length + m <= 140737488355328) (hbase : base <= w.heap.size)
  (h : ∀ v' w', OwnB w' base v' (bs ++ news) -> Below base w w' -> K (a.put o.dst v') w') : if Region.wanted o (yielded ops a.tmps) = true then Oper.wp Tryz.prog o a w K Q else E := by
 have hw : Region.wanted o (yielded ops a.tmps) = true := by simp [Region.wanted, hgd]
 rw [if_pos hw]
 obtain ⟨i, hi, hz, hsz, hby⟩ := info5
 refine wp_append_own w s x 32 ho base 5 i (.int .u8 0) 1 1 Tryz.underlying32 hi hz hsz hby rfl (by decide) v bs.length (bs.map (Value.int .u8)) hs hown ad m c (news.map (Value.int .u8)) hx (by simpa using hl) hnews (B8_one2 _) (by unfold maxLen; omega) (by omega) hbase ?_
 intro v' w' h1 h2 h3
 refine h v' w' ?_ ((Below.refl _ _).grown h2 hbase hown.lt)
 unfold OwnB
 rw [List.length_append, hl, List.map_append]
 exact h1
theorem _root_.Go.Proofs.YtdkpilgelgjieaaGreat.OwnB.drew {w : World} {base : Nat} {v : Value} {bs : List Int} (h : OwnB w base v bs) : OwnB w.drew base v bs := h.far fun i _ _ => rfl
set_option maxHeartbeats 2000000 in
theorem Zut (a : Option Addr) (n c : Nat) (p : List Int) (w : World) (h : Ag w a n c p) (hn : n <= 140737488355328) :
  Calls Tryz.prog 92 #[.slice a n c] w fun e w' => (∃ a' m' c', e = .returned (.tuple #[.slice a' m' c', .bool (keyP p).2]) /\ Ag w' a' m' c' (keyP p).1 /\ ∀ g off, a' = some ⟨g, off, none⟩ -> 0 < m' -> w.heap.size <= g) /\ Below w.heap.size w w' := by
 have hl := h.l
 have hr := rright_any a n c p w h hn
 by_cases hrt : rightP p = true
 case neg =>
  rw [Ziv (fun hh => hrt hh.1)]
  simp only
  rw [show rightP p = false from by simpa using hrt] at hr
  clear h hl hrt
  go_enter Tryz.func92, Tryz.ntmps92
  go_wp2_with fail
  refine hr.mono ?_
  rintro e w1 ⟨rfl, rfl⟩
  clear hr
  go_wp2_with fail
  go_ret2
  exact ⟨⟨none, 0, 0, rfl, ag_nil _, fun _ _ e => by cases e⟩, Below.refl _ _⟩
 rw [hrt] at hr
 by_cases he : n % 2 = 0
 case neg =>
  rw [Ziv (fun hh => he (by rw [<- hl]; exact hh.2))]
  simp only
  have hei : (n : Int) % 2 = 1 := by omega
  clear h hl he
  go_enter Tryz.func92, Tryz.ntmps92
  go_wp2_with fail
  refine hr.mono ?_
  rintro e w1 ⟨rfl, rfl⟩
  clear hr
  go_wp2_with fail
  go_ret2
  exact ⟨⟨none, 0, 0, rfl, ag_nil _, fun _ _ e => by cases e⟩, Below.refl _ _⟩
 rw [Zhm hrt (by omega)]
 simp only
 obtain ⟨m, hm⟩ : ∃ m, n / 2 = m := ⟨_, rfl⟩
 have HM : Hid (n = 2 * m) := Hid.mk (by omega)
 have HKL : Hid ((kk p).length = m) := Hid.mk (by rw [Zow]; omega)
 have HKB := Hid.mk (Zsq p h.b hrt)
 have HL := Hid.mk hl
 have HB := Hid.mk h.b
 have HRT := Hid.mk hrt
 have HC := Hid.mk (fun h0 => ag_head h h0)
 have hm3 : (n : Int) % 2 = 0 := by omega
 clear h hl hrt hm he
 go_enter Tryz.func92, Tryz.ntmps92
 go_wp2_with fail
 refine hr.mono ?_
 rintro e w1 ⟨rfl, rfl⟩
 clear hr
 go_wp2_with fail
 clear hm3
 go_loopw [4, 5] (fun q i v => ∃ j k : Nat, j = 2 * k /\ j <= n /\ i = .int .i64 j /\ OwnB v w1.heap.size q ((kk p).take k) /\ Below w1.heap.size w1 v) (fun _ i _ => n - (intOf i).toNat)
 case atStart => exact ⟨0, 0, rfl, by omega, rfl, ownB_nil _ _, Below.refl _ _⟩
 case round =>
  obtain ⟨j, k, hjk, hjn, rfl, hown, hb⟩ := hrel
  have HJ := Hid.mk hjk
  by_cases hlt : j < n
  ·have hki : ((j : Int) + 1) < n := by have := HM.out; omega
   have hki0 : (j : Int) < n := by omega
   have hget := Zsr p k (by have := HL.out; have := HM.out; omega)
   have hts := take_snoc (b := kk p) (i := k) (by have := HKL.out; have := HM.out; omega)
   rw [hget] at hts
   obtain ⟨g, off, rfl, hnc, hcm, hcs⟩ := HC.out (by omega)
   unfold maxLen at hcm
   have hc1 := (hb.cell (p := ⟨g, off + (2 * k), none⟩) (block_lt_of_cell (hcs (2 * k) (by omega)))).trans (hcs (2 * k) (by omega))
   have hc2 := (hb.cell (p := ⟨g, off + (2 * k + 1), none⟩) (block_lt_of_cell (hcs (2 * k + 1) (by omega)))).trans (hcs (2 * k + 1) (by omega))
   have hx0 := (HB.out _ (getD_mem (l := p) (i := 2 * k) (by have := HL.out; omega))).1
   have hy0 := (HB.out _ (getD_mem (l := p) (i := 2 * k + 1) (by have := HL.out; omega))).1
   have hx1 := Zhb HRT.out (i := 2 * k) (by have := HL.out; omega)
   have hy1 := Zhb HRT.out (i := 2 * k + 1) (by have := HL.out; omega)
   generalize p.getD (2 * k) 0 = x at *
   generalize p.getD (2 * k + 1) 0 = y at *
   rw [<- hjk] at hc1 hc2
   have ht2 : ((j : Int) + 1).toNat = j + 1 := by omega
   have ht3 : (0 : Int) <= (j : Int) + 1 := by omega
   have hw1 : IntKind.i64.wrap ((j : Int) + 1) = (j : Int) + 1 := by rw [IntKind.wrap_i64]; omega
   have hw2 : IntKind.u8.wrap (16 * x) = 16 * x := by rw [IntKind.wrap_u8]; omega
   have hw3 : IntKind.u8.wrap (16 * x + y) = 16 * x + y := by rw [IntKind.wrap_u8]; omega
   have HTS := Hid.mk hts
   have HTL : Hid (((kk p).take k).length = k) := Hid.mk (by rw [List.length_take, HKL.out]; have := HM.out; omega)
   have HO2 : Hid (∀ o : Obj, OwnB (wr.drew.alloc o) w1.heap.size u4 ((kk p).take k)) := Hid.mk fun o => OwnB.alloc hown.drew o
   have HBB := Hid.mk hb
   have HSZ := Hid.mk hb.size
   clear hts hown hb hget hcs hjk
   go_wp2_with fail
   go_region_law (refine Zun rfl (.tmp 22) (.tmp 34) rfl w1.heap.size _ ((kk p).take k) rfl (HO2.out _) ⟨wr.heap.size, 0, none⟩ 1 1 [16 * x + y] rfl rfl (one_new wr.drew _) (by have := HTL.out; have := HJ.out; omega) (by have := HSZ.out; simp; omega) ?_; intro v1 w2 o1 hb1; rw [<- HTS.out] at o1; have HO3 := Hid.mk o1; have HB3 := Hid.mk hb1; clear o1 hb1)
   all_goals
    go_wp2_with fail
    refine ⟨⟨j + 2, k + 1, by have := HJ.out; omega, by omega, by simp, HO3.out, ?_⟩, by simp [intOf]; omega⟩
    exact (HBB.out.drew.alloc HSZ.out _).trans HB3.out
  ·have hki : ¬ ((j : Int) + 1) < n := by omega
   have e : k = m := by have := HM.out; omega
   subst e
   rw [List.take_of_length_le (by rw [HKL.out]; exact Nat.le_refl _)] at hown
   obtain ⟨a', c', rfl, hag⟩ := OwnB.ag hown HKB.out
   have HN : Hid (∀ g off, a' = some ⟨g, off, none⟩ -> 0 < k -> w1.heap.size <= g) := Hid.mk (by
    rcases hown.2 with ⟨e, _⟩ | ⟨g', cap', cur, e, hg', _⟩
    ·injection e with e1; rw [e1]; intro _ _ q; cases q
    ·injection e with e1; rw [e1]; intro _ _ q; cases q; exact fun _ => hg')
   have HA := Hid.mk hag
   have HBB := Hid.mk hb
   clear hown hag hb hjk
   go_wp2_with fail
   go_ret2
   exact ⟨⟨a', _, c', rfl, HA.out, fun g off e h0 => HN.out g off e (by have := HA.out.l; have := HKL.out; omega)⟩, HBB.out⟩
theorem Zha (a : Option Addr) (n c : Nat) (p : List Int) (w : World) (h : Ag w a n c p) (hn : n <= 140737488355328) :
  Calls Tryz.prog 92 #[.slice a n c] w fun e w' => (∃ a' m' c', e = .returned (.tuple #[.slice a' m' c', .bool (keyP p).2]) /\ Ag w' a' m' c' (keyP p).1) /\ Below w.heap.size w w' :=
 (Zut a n c p w h hn).mono fun e w' hq => by obtain ⟨⟨a', m', c', h1, h2, _⟩, h3⟩ := hq; exact ⟨⟨a', m', c', h1, h2⟩, h3⟩
end Go.Proofs.YtdkpilgelgjieaaGreat.Ni
namespace Go.Proofs.YtdkpilgelgjieaaGreat.Ni
open Go.RowKit
theorem hd_of (n : Nat) (leaf : Bool) : hdP n leaf = if n % 2 = 0 then [if leaf then 2 else 0] ++ [0] else [if leaf then 3 else 1] := by
 unfold hdP
 cases leaf <;> rfl
set_option maxHeartbeats 2000000 in
theorem rpack_any (a : Option Addr) (n c : Nat) (p : List Int) (leaf : Bool) (w : World) (h : Ag w a n c p) (hn : n + 2 <= 140737488355328) :
  Calls Tryz.prog 78 #[.slice a n c, .bool leaf] w fun e w' => (∃ a' m c', e = .returned (.tuple #[.slice a' m c', .int .i64 ((packP p leaf).2 : Nat)]) /\ Ag w' a' m c' (packP p leaf).1) /\ Below w.heap.size w w' := by
 have hl := h.l
 have hr := rright_any a n c p w h (by omega)
 by_cases hrt : rightP p = true
 case neg =>
  rw [Zu2 hrt]
  simp only
  rw [show rightP p = false from by simpa using hrt] at hr
  clear h hl hrt
  go_enter Tryz.func78, Tryz.ntmps78
  go_wp2_with fail
  refine hr.mono ?_
  rintro e w1 ⟨rfl, rfl⟩
  clear hr
  go_wp2_with fail
  go_ret2
  exact ⟨⟨none, 0, 0, rfl, ag_nil _⟩, Below.refl _ _⟩
 rw [packP_yes hrt]
 simp only
 rw [hrt] at hr
 have hpk := Zom (p := p) (leaf := leaf)
 rw [if_pos hrt] at hpk
 have hfb := Zk7 (p := p) (leaf := leaf) h.b
 rw [hl] at hpk hfb ⊢
 have hho := hd_of n leaf
 have hhl := hd_len n leaf
 have HHL : Hid ((hdP n leaf).length <= 2) := Hid.mk (by omega)
 have HPK := Hid.mk hpk
 have HFB := Hid.mk hfb
 have HAG := Hid.mk h
 have HL := Hid.mk hl
 have HR := Hid.mk hr
 generalize hdP n leaf = hd at *
 clear hpk hfb h hl hr hrt hhl
 by_cases he : n % 2 = 0
 ·rw [if_pos he] at hho
  have hei : (n : Int) % 2 = 0 := by omega
  have HHO := Hid.mk hho
  clear hho he
  cases leaf with
  | true =>
   simp only [if_true] at HHO
   go_enter Tryz.func78, Tryz.ntmps78
   go_wp2_with fail
   refine HR.out.mono ?_
   rintro e w1 ⟨rfl, rfl⟩
   clear HR
   go_wp2_with (first
    | (at_builtin; refine Zbx rfl (.tmp 26) (.tmp 27) rfl w1.heap.size _ [2] rfl (OwnB.alloc (Zes w1 _) _) (some ⟨w1.heap.size + 1, 0, none⟩) 1 1 [0] rfl (by have := in0_one (w1.alloc (.cells #[.int .u8 2] 5)) 0; simpa using this) (fun h => by cases h) rfl (by show 1 + 1 <= 140737488355328; omega) (by simp; omega) ?_; intro v1 w2 o1 hb1; rw [<- HHO.out] at o1; have HO1 := Hid.mk o1; have HB1 := Hid.mk ((((Below.refl w1.heap.size w1).alloc (Nat.le_refl _) _).alloc (by simp) _).trans hb1); clear o1 hb1)
    | (at_builtin; refine Zbx rfl (.tmp 29) (.tmp 30) rfl w1.heap.size _ hd rfl HO1.out a n c p rfl (HAG.out.at HB1.out).i HAG.out.nil HAG.out.l (by have := HHL.out; omega) HB1.out.size ?_; intro v2 w3 o2 hb2; obtain ⟨a2, c2, rfl, hag2⟩ := OwnB.ag o2 HFB.out; have HB2 := Hid.mk (HB1.out.trans hb2); have HA2 := Hid.mk hag2; clear o2 hb2 hag2; generalize hgl : (hd ++ p).length = len2 at HA2 ⊢; have HGL := Hid.mk hgl; clear hgl))
   have hk := Zha a2 len2 c2 (hd ++ p) _ HA2.out (by have h1 := HGL.out; rw [List.length_append, HL.out] at h1; have := HHL.out; omega)
   rw [HPK.out] at hk
   simp only at hk
   have HK := Hid.mk hk
   clear hk
   refine HK.out.mono ?_
   rintro e w9 ⟨⟨a3, m3, c3, rfl, hag3⟩, hb3⟩
   have HA3 := Hid.mk hag3
   have HB3 := Hid.mk (HB2.out.trans (hb3.mono HB2.out.size))
   clear hag3 hb3
   go_wp2_with fail
   go_ret2
   exact ⟨⟨a3, m3, c3, rfl, HA3.out⟩, HB3.out⟩
  | false =>
   simp only [Bool.false_eq_true, if_false] at HHO
   go_enter Tryz.func78, Tryz.ntmps78
   go_wp2_with fail
   refine HR.out.mono ?_
   rintro e w1 ⟨rfl, rfl⟩
   clear HR
   go_wp2_with (first
    | (at_builtin; refine Zbx rfl (.tmp 26) (.tmp 27) rfl w1.heap.size _ [0] rfl (OwnB.alloc (Zes w1 _) _) (some ⟨w1.heap.size + 1, 0, none⟩) 1 1 [0] rfl (by have := in0_one (w1.alloc (.cells #[.int .u8 0] 5)) 0; simpa using this) (fun h => by cases h) rfl (by show 1 + 1 <= 140737488355328; omega) (by simp; omega) ?_; intro v1 w2 o1 hb1; rw [<- HHO.out] at o1; have HO1 := Hid.mk o1; have HB1 := Hid.mk ((((Below.refl w1.heap.size w1).alloc (Nat.le_refl _) _).alloc (by simp) _).trans hb1); clear o1 hb1)
    | (at_builtin; refine Zbx rfl (.tmp 29) (.tmp 30) rfl w1.heap.size _ hd rfl HO1.out a n c p rfl (HAG.out.at HB1.out).i HAG.out.nil HAG.out.l (by have := HHL.out; omega) HB1.out.size ?_; intro v2 w3 o2 hb2; obtain ⟨a2, c2, rfl, hag2⟩ := OwnB.ag o2 HFB.out; have HB2 := Hid.mk (HB1.out.trans hb2); have HA2 := Hid.mk hag2; clear o2 hb2 hag2; generalize hgl : (hd ++ p).length = len2 at HA2 ⊢; have HGL := Hid.mk hgl; clear hgl))
   have hk := Zha a2 len2 c2 (hd ++ p) _ HA2.out (by have h1 := HGL.out; rw [List.length_append, HL.out] at h1; have := HHL.out; omega)
   rw [HPK.out] at hk
   simp only at hk
   have HK := Hid.mk hk
   clear hk
   refine HK.out.mono ?_
   rintro e w9 ⟨⟨a3, m3, c3, rfl, hag3⟩, hb3⟩
   have HA3 := Hid.mk hag3
   have HB3 := Hid.mk (HB2.out.trans (hb3.mono HB2.out.size))
   clear hag3 hb3
   go_wp2_with fail
   go_ret2
   exact ⟨⟨a3, m3, c3, rfl, HA3.out⟩, HB3.out⟩
 ·rw [if_neg he] at hho
  have hei : (n : Int) % 2 = 1 := by omega
  have HHO := Hid.mk hho
  clear hho he
  cases leaf with
  | true =>
   simp only [if_true] at HHO
   go_enter Tryz.func78, Tryz.ntmps78
   go_wp2_with fail
   refine HR.out.mono ?_
   rintro e w1 ⟨rfl, rfl⟩
   clear HR
   have HO1 : Hid (OwnB (w1.alloc (.cells #[.int .u8 3] 5)) w1.heap.size (.slice (some ⟨w1.heap.size, 0, none⟩) 1 1) hd) := Hid.mk (by rw [HHO.out]; exact Zes w1 _)
   have HB1 : Hid (Below w1.heap.size w1 (w1.alloc (.cells #[.int .u8 3] 5))) := Hid.mk (below_new _ _)
   go_wp2_with (first
    | (at_builtin; refine Zbx rfl (.tmp 29) (.tmp 30) rfl w1.heap.size _ hd rfl HO1.out a n c p rfl (HAG.out.at HB1.out).i HAG.out.nil HAG.out.l (by have := HHL.out; omega) HB1.out.size ?_; intro v2 w3 o2 hb2; obtain ⟨a2, c2, rfl, hag2⟩ := OwnB.ag o2 HFB.out; have HB2 := Hid.mk (HB1.out.trans hb2); have HA2 := Hid.mk hag2; clear o2 hb2 hag2; generalize hgl : (hd ++ p).length = len2 at HA2 ⊢; have HGL := Hid.mk hgl; clear hgl))
   have hk := Zha a2 len2 c2 (hd ++ p) _ HA2.out (by have h1 := HGL.out; rw [List.length_append, HL.out] at h1; have := HHL.out; omega)
   rw [HPK.out] at hk
   simp only at hk
   have HK := Hid.mk hk
   clear hk
   refine HK.out.mono ?_
   rintro e w9 ⟨⟨a3, m3, c3, rfl, hag3⟩, hb3⟩
   have HA3 := Hid.mk hag3
   have HB3 := Hid.mk (HB2.out.trans (hb3.mono HB2.out.size))
   clear hag3 hb3
   go_wp2_with fail
   go_ret2
   exact ⟨⟨a3, m3, c3, rfl, HA3.out⟩, HB3.out⟩
  | false =>
   simp only [Bool.false_eq_true, if_false] at HHO
   go_enter Tryz.func78, Tryz.ntmps78
   go_wp2_with fail
   refine HR.out.mono ?_
   rintro e w1 ⟨rfl, rfl⟩
   clear HR
   have HO1 : Hid (OwnB (w1.alloc (.cells #[.int .u8 1] 5)) w1.heap.size (.slice (some ⟨w1.heap.size, 0, none⟩) 1 1) hd) := Hid.mk (by rw [HHO.out]; exact Zes w1 _)
   have HB1 : Hid (Below w1.heap.size w1 (w1.alloc (.cells #[.int .u8 1] 5))) := Hid.mk (below_new _ _)
   go_wp2_with (first
    | (at_builtin; refine Zbx rfl (.tmp 29) (.tmp 30) rfl w1.heap.size _ hd rfl HO1.out a n c p rfl (HAG.out.at HB1.out).i HAG.out.nil HAG.out.l (by have := HHL.out; omega) HB1.out.size ?_; intro v2 w3 o2 hb2; obtain ⟨a2, c2, rfl, hag2⟩ := OwnB.ag o2 HFB.out; have HB2 := Hid.mk (HB1.out.trans hb2); have HA2 := Hid.mk hag2; clear o2 hb2 hag2; generalize hgl : (hd ++ p).length = len2 at HA2 ⊢; have HGL := Hid.mk hgl; clear hgl))
   have hk := Zha a2 len2 c2 (hd ++ p) _ HA2.out (by have h1 := HGL.out; rw [List.length_append, HL.out] at h1; have := HHL.out; omega)
   rw [HPK.out] at hk
   simp only at hk
   have HK := Hid.mk hk
   clear hk
   refine HK.out.mono ?_
   rintro e w9 ⟨⟨a3, m3, c3, rfl, hag3⟩, hb3⟩
   have HA3 := Hid.mk hag3
   have HB3 := Hid.mk (HB2.out.trans (hb3.mono HB2.out.size))
   clear hag3 hb3
   go_wp2_with fail
   go_ret2
   exact ⟨⟨a3, m3, c3, rfl, HA3.out⟩, HB3.out⟩
end Go.Proofs.YtdkpilgelgjieaaGreat.Ni
namespace Go.Proofs.YtdkpilgelgjieaaGreat
open Go.RowKit
theorem round_any {base : Nat} {wr w1 : World} {it : Value} {ys : List V} {y : V} (hz : base <= wr.heap.size) (hown : OwnI wr base it ys) (hb1 : Below wr.heap.size wr w1) (hlen : ys.length <= 1000000000) (ty : TypeId) :
  ∃ v' w3, (Builtin.append_ #[92, 92] ty #[it, .slice (some ⟨w1.heap.size, 0, none⟩) 1 1]).run Tryz.prog (w1.alloc (.cells #[.bool y.l, .slice y.ba y.bn y.bc, .slice y.ia y.m y.ic] 94)) = .ok v' w3 ∧
   OwnI w3 base v' (ys ++ [y]) /\ Below base wr w3 /\ (∀ b, wr.heap.size <= b -> b < w1.heap.size -> w3.heap[b]? = w1.heap[b]?) := by
 obtain ⟨Y, hY⟩ : ∃ Y : Obj, Obj.cells #[.bool y.l, .slice y.ba y.bn y.bc, .slice y.ia y.m y.ic] 94 = Y := ⟨_, rfl⟩
 rw [hY]
 have hs2 : (w1.alloc Y).heap.size = w1.heap.size + 1 := by simp
 have hb2 : Below wr.heap.size wr (w1.alloc Y) := hb1.alloc hb1.size _
 have hz1 := hb1.size
 have hblk : (w1.alloc Y).heap[w1.heap.size]? = some Y := heap_alloc_new w1 Y
 have hnews : ∀ j u, (V.cells y)[j]? = some u -> (w1.alloc Y).cell? ((⟨w1.heap.size, 0, none⟩ : Addr).add j) = some u := by
  intro j u hu
  rw [Zax, Nat.zero_add]
  rw [<- hY] at hblk ⊢
  rw [cell_of_row _ _ _ _ _ _ hblk]
  simpa [V.cells] using hu
 obtain ⟨v', w3, hrun, hown3, hgr, hown4⟩ := Zhq (Zca hown fun g _ hg => hb2.block g hg) y _ 1 hnews (by omega) hlen ty
 have hfar : ∀ b, b < w1.heap.size + 1 -> it.ownBlock ≠ some b -> w3.heap[b]? = (w1.alloc Y).heap[b]? := fun b hb hne => hgr.block b (by rw [hs2]; exact hb) (fun h => hne h.symm)
 refine ⟨v', w3, hrun, hown3, ⟨hgr.os.trans hb2.os, hgr.tape.trans hb2.tape, hgr.output.trans hb2.output, Nat.le_trans hb2.size hgr.size, fun b hb => ?_⟩, fun b h1 h2 => ?_⟩
 ·rw [hfar b (by omega) (fun h => by have := (Zdq hown h).1; omega)]
  exact hb2.block b (by omega)
 ·rw [hfar b (by omega) (fun h => by have := (Zdq hown h).2; omega), Below.heap_alloc _ _ _ h2]
def Pkd (gI base : Nat) (u : World) (a : Option Addr) (m c : Nat) (pk : List Int) : Prop := AgK (fun g => g < base /\ g ≠ gI) u a m c pk
theorem Zzc {w v : World} {x : NV} {gI : Nat} {it : Value} (h : En w v x gI it) (hl : ∃ ia m ic, it = .slice ia m ic) {a : Option Addr} {m c : Nat} {pk : List Int} (ha : Ag v a m c pk) (hm : m <= 140737488351232) : Pkd gI v.heap.size v a m c pk := by
 refine ⟨ha, hm, fun g off e h0 => ?_⟩
 obtain ⟨g', off', e', _, _, hc⟩ := ag_head ha h0
 rw [e] at e'
 cases e'
 have hc0 := hc 0 h0
 refine ⟨block_lt_of_cell hc0, fun hg => ?_⟩
 subst hg
 rw [cell_of_row _ _ _ _ _ _ h.row] at hc0
 obtain ⟨ia, m', ic, rfl⟩ := hl
 match off, hc0 with
 | 0, h => simp at h
 | 1, h => simp at h
 | 2, h => simp at h
 | k + 3, h => simp at h
theorem Pkd.lies {gI base : Nat} {u : World} {a : Option Addr} {m c : Nat} {pk : List Int} (h : Pkd gI base u a m c pk) : Lies u (.mk false pk []) ⟨false, a, m, c, none, 0, 0⟩ :=
 lies_eq.2 ⟨rfl, h.1, rfl, Nat.le_refl _, Nat.zero_le _, ⟨h.2.1, Nat.zero_le _⟩, Zbm⟩
theorem Pkd.go {gI base : Nat} {u u' : World} {a : Option Addr} {m c : Nat} {pk : List Int} (h : Pkd gI base u a m c pk) (hb : Below base u u') (it : Value) : Pkd gI base (u'.setCell ⟨gI, 2, none⟩ it) a m c pk :=
 AgK.go (fun g hK hg => ⟨(heap_setCell_other _ _ _ _ hK.2).trans (hb.block g hK.1), hK⟩) h
theorem Zjx {w wP : World} {x : NV} {gI : Nat} (hE : En w wP x gI (.slice none 0 0)) {a : Option Addr} {m c : Nat} {pk : List Int} (ha : Ag wP a m c pk) (hm : m <= 140737488351232) (ty : TypeId) :
  ∃ v' w3, (Builtin.append_ #[92, 92] ty #[.slice none 0 0, .slice (some ⟨wP.heap.size, 0, none⟩) 1 1]).run Tryz.prog (wP.alloc (.cells #[.bool false, .slice a m c, .slice none 0 0] 94)) = .ok v' w3 ∧
   Below (gI + 1) wP w3 /\ (∃ ia m ic, v' = .slice ia m ic) /\ wP.heap.size <= (w3.setCell ⟨gI, 2, none⟩ v').heap.size /\ OwnI (w3.setCell ⟨gI, 2, none⟩ v') wP.heap.size v' [⟨false, a, m, c, none, 0, 0⟩] /\ Pkd gI wP.heap.size (w3.setCell ⟨gI, 2, none⟩ v') a m c pk := by
 obtain ⟨v', w3, h1, h2, h3, _⟩ := round_any (y := ⟨false, a, m, c, none, 0, 0⟩) (it := .slice none 0 0) (ys := []) (Nat.le_refl wP.heap.size) (World.ownsRow_nil _ _ _ _) (Below.refl _ _) (by simp) ty
 have hgz := hE.sz
 refine ⟨v', w3, h1, ⟨h3.os, h3.tape, h3.output, h3.size, fun k hk => h3.block k (by omega)⟩, ?_, by simpa using h3.size, Zca h2 fun g hg _ => heap_setCell_other _ _ _ _ (by have := (Zdq h2 hg).1; show g ≠ gI; omega), (Zzc hE ⟨_, _, _, rfl⟩ ha hm).go h3 v'⟩
 rcases h2.2 with ⟨e, _⟩ | ⟨g, cap, cur, e, _⟩
 ·exact ⟨_, _, _, e⟩
 ·exact ⟨_, _, _, e⟩
theorem Zih {w u w1 : World} {x : NV} {gI base : Nat} {it : Value} (hE : En w u x gI it) (hgb : gI + 1 <= base) (hz : base <= u.heap.size) {a : Option Addr} {m c : Nat} {pk : List Int} (hown : OwnI u base it [⟨false, a, m, c, none, 0, 0⟩]) (hp : Pkd gI base u a m c pk) (hb1 : Below u.heap.size u w1) {t : T} {y : V}
  (hy : ∀ w4, Below w.heap.size w w4 -> (∀ b, u.heap.size <= b -> b < w1.heap.size -> w4.heap[b]? = w1.heap[b]?) -> Lies w4 t y) (ty : TypeId) :
  ∃ v' w3, (Builtin.append_ #[92, 92] ty #[it, .slice (some ⟨w1.heap.size, 0, none⟩) 1 1]).run Tryz.prog (w1.alloc (.cells #[.bool y.l, .slice y.ba y.bn y.bc, .slice y.ia y.m y.ic] 94)) = .ok v' w3 /\ Below (gI + 1) u w3 /\ Full gI w (w3.setCell ⟨gI, 2, none⟩ v') v' [.mk false pk [], t] := by
 obtain ⟨v', w3, h1, h2, h3, h4⟩ := round_any (y := y) hz hown hb1 (by simp) ty
 have hB : Below (gI + 1) u w3 := ⟨h3.os, h3.tape, h3.output, h3.size, fun k hk => h3.block k (by omega)⟩
 have hE3 := (hE.go hB).put v'
 refine ⟨v', w3, h1, hB, Zij (base := base) (Zca h2 fun g hg _ => heap_setCell_other _ _ _ _ (by have := (Zdq h2 hg).1; show g ≠ gI; omega)) ⟨(hp.go h3 v').lies, hy _ hE3.bel fun b hb hlt => ?_, trivial⟩⟩
 exact (heap_setCell_other _ _ _ _ (by show b ≠ gI; omega)).trans (h4 b hb hlt)
end Go.Proofs.YtdkpilgelgjieaaGreat
namespace Go.Proofs.YtdkpilgelgjieaaGreat
open Go.RowKit
open Ni (packP)
theorem Pkd.drew {gI base : Nat} {u : World} {a : Option Addr} {m c : Nat} {pk : List Int} (h : Pkd gI base u a m c pk) : Pkd gI base u.drew a m c pk := AgK.go (w := u) (w' := u.drew) (fun g hK hg => ⟨rfl, hK⟩) h
set_option maxHeartbeats 8000000 in
theorem Zuz (K : Nat -> Prop) (x : NV) (n : PN) (w : World) (h : NodeAt K w x n) (h1 : n.k = 1) (hd : ∀ r, (r = n.c \/ r ∈ n.ks) -> r.i.length < 32 -> DDSaid r.i) :
  Calls Tryz.prog 65 #[.agg x.cells.toArray] w (EEPost w n) := by
 have B := Zcw w x h.c.len
 have HB := Hid.mk (below_new w (.cells x.cells.toArray 104))
 have HH := Hid.mk h
 obtain ⟨q, hq⟩ : ∃ q, NR n = q := ⟨_, rfl⟩
 have HR1 := Hid.mk (show ∀ v, Below w.heap.size w v -> Calls Tryz.prog 76 #[.agg x.cells.toArray] v fun e w' => e = .returned (.bool q) /\ Below v.heap.size v w' from fun v hv => by
  rw [<- hq]; exact Zfp K x n v (h.go (Keep.below hv)) hd)
 have HQ := Hid.mk hq
 have hk : x.k = 1 := by rw [h.k]; exact h1
 have hvn := h.v.2.1
 unfold EEPost
 rw [hq]
 have H1 := Hid.mk h1
 clear h hq hd h1
 go_enter Tryz.func65, Tryz.ntmps65
 go_upto_region 1 with fail
 refine gen_w (p := fun v => Code.wp _ _ _ _ v) (q := fun v => NBx w.heap.size v x /\ Below w.heap.size w v) ⟨B, HB.out⟩ ?_
 clear B HB
 rintro v ⟨B, hb⟩
 have HB := Hid.mk hb
 have HX := Hid.mk B
 clear hb B
 go_wp2_with (first | refine Za8 rfl _ rfl w.heap.size rfl x HX.out ?_)
 refine (HR1.out v HB.out).mono ?_
 rintro e w1 ⟨rfl, hb1⟩
 have HX1 := Hid.mk (HX.out.go hb1)
 have HB1 := Hid.mk (below_go HB.out hb1)
 clear hb1 HX HB
 cases q with
 | false =>
  go_wp2_with fail
  go_ret2
  exact ⟨⟨none, 0, 0, rfl, ⟨.inl ⟨rfl, rfl⟩, fun _ => ⟨rfl, rfl⟩, rfl, fun x hx => by cases hx⟩, fun g off h => by cases h⟩, HB1.out⟩
 | true =>
  obtain ⟨b1, b2, b3⟩ := Zc5 HH.out.okN HQ.out
  have HM := Hid.mk b1
  have HPL := Hid.mk (Zlf HQ.out).2
  have hpn : x.pn <= 1000 := by rw [<- HH.out.p.l]; exact HPL.out
  have HLT := Hid.mk (show w.heap.size < w1.heap.size from (Array.getElem?_eq_some_iff.1 HX1.out.row).1)
  clear b1 b2 b3
  go_upto_region 5 with fail
  obtain ⟨gI, hgI⟩ : ∃ gI, w1.heap.size = gI := ⟨_, rfl⟩
  refine gen_w (p := fun v => Code.wp _ _ _ _ v) (q := fun v => En w v x gI (.slice none 0 0)) ⟨by rw [<- hgI]; exact heap_alloc_new _ _, HX1.out.go (below_new _ _), below_go HB1.out (below_new _ _), by rw [<- hgI]; exact HLT.out, by simp [hgI]⟩ ?_
  intro v2 E2
  rw [hgI]
  have c0 := E2.bx.c0
  have c1 := E2.bx.c1
  rw [hk] at c0
  have HE2 := Hid.mk E2
  clear E2 HX1 HB1 HLT hgI
  have HPK := Hid.mk (Ni.rpack_any x.pa x.pn x.pc n.p true v2 (HH.out.p.1.at HE2.out.bel) (by omega))
  obtain ⟨pk, hpk⟩ : ∃ pk, (packP n.p true).1 = pk := ⟨_, rfl⟩
  rw [hpk] at HPK
  have HPKE := Hid.mk hpk
  have HPKL := Hid.mk (show pk.length <= 1000 from by
   rw [<- hpk]
   unfold packP
   split
   ·dsimp only; rw [Ni.pack_len]; have := HPL.out; omega
   ·simp)
  obtain ⟨per, hper⟩ : ∃ per : Nat, (packP n.p true).2 = per := ⟨_, rfl⟩
  rw [hper] at HPK
  clear hpk hper
  go_wp2_with fail
  refine HPK.out.mono ?_
  rintro e wP ⟨⟨a', m, c', rfl, hag⟩, hbP⟩
  have hEP := HE2.out.all hbP
  have d2 := hEP.c2
  have df := hEP.fz
  obtain ⟨it, w3, hrun, hb3, hsl, hz4, how4, hpd4⟩ := Zjx hEP hag (by have := hag.l; have := HPKL.out; omega) 92
  have HGB := Hid.mk hEP.sz
  have hE3 := hEP.go hb3
  have f2 := hE3.c2
  have ff := hE3.fz
  have HE4 := Hid.mk (hE3.put it)
  obtain ⟨ja, jm, jc, hit⟩ := hsl
  have HIT := Hid.mk hit
  have HZ4 := Hid.mk hz4
  have HOW4 := Hid.mk how4
  have HPD4 := Hid.mk hpd4
  rw [hit] at hrun
  have HRUN := Hid.mk hrun
  clear hag hbP hrun hb3 hz4 how4 hpd4 hE3 hEP hit c0 c1 HPK HE2
  go_upto_region 13 with (first | refine Zcc rfl _ _ rfl _ _ rfl rfl HRUN.out ?_)
  rw [<- HIT.out]
  generalize w3.setCell ⟨gI, 2, none⟩ it = u4 at HE4 HZ4 HOW4 HPD4 ⊢
  have g0 := HE4.out.bx.c0
  rw [hk] at g0
  clear d2 df f2 ff HRUN
  have d2 := HE4.out.c2
  have e2 := HE4.out.bx.c2
  have ef := HE4.out.fz
  obtain ⟨v', w3, hrun, hb3, hfull⟩ := Zih (t := .mk false n.v []) (y := ⟨false, x.va, x.vn, x.vc, none, 0, 0⟩) HE4.out HGB.out HZ4.out HOW4.out HPD4.out (Below.refl _ _) (fun w4 h4 _ => Zaw h4 _ _ (lies_eq.2 ⟨rfl, HH.out.v.1, rfl, Nat.le_refl _, Nat.zero_le _, ⟨HH.out.v.2.1, Nat.zero_le _⟩, Zbm⟩)) 92
  have hE5 := HE4.out.go hb3
  have f2 := hE5.c2
  have ff := hE5.fz
  have HE5 := Hid.mk (hE5.put v')
  obtain ⟨ia, m', ic, hv', hen⟩ := Zf0 (n := n) hfull (by simp) (by unfold itemP; rw [H1.out, if_neg (by decide), if_pos rfl, HPKE.out]) HM.out
  subst hv'
  have HRUN := Hid.mk hrun
  clear hrun hb3 hfull hE5
  go_upto_region 16 with (first | refine Zcc rfl _ _ rfl _ _ rfl rfl HRUN.out ?_)
  generalize w3.setCell ⟨gI, 2, none⟩ (.slice ia m' ic) = u5 at HE5 hen ⊢
  clear d2 e2 ef f2 ff
  have HEN := Hid.mk hen
  clear hen
  have k0 := HE5.out.c0
  have k1 := HE5.out.c1
  have k2 := HE5.out.c2
  go_wp2_with fail
  refine HEN.out.mono ?_
  rintro e w5 ⟨⟨a, m5, c5, rfl, hag, hnw⟩, hb5⟩
  have HAG := Hid.mk hag
  have HNW := Hid.mk (hnw.mono HE5.out.bel.size)
  have HB5 := Hid.mk (below_go HE5.out.bel hb5)
  clear hag hb5 hnw
  go_wp2_with fail
  go_ret2
  exact ⟨⟨a, m5, c5, rfl, HAG.out, HNW.out⟩, HB5.out⟩
set_option maxHeartbeats 8000000 in
theorem Zuy (K : Nat -> Prop) (x : NV) (n : PN) (w : World) (h : NodeAt K w x n) (h2 : n.k = 2) (hd : ∀ r, (r = n.c \/ r ∈ n.ks) -> r.i.length < 32 -> DDSaid r.i) :
  Calls Tryz.prog 65 #[.agg x.cells.toArray] w (EEPost w n) := by
 have B := Zcw w x h.c.len
 have HB := Hid.mk (below_new w (.cells x.cells.toArray 104))
 have HH := Hid.mk h
 obtain ⟨q, hq⟩ : ∃ q, NR n = q := ⟨_, rfl⟩
 have HR1 := Hid.mk (show ∀ v, Below w.heap.size w v -> Calls Tryz.prog 76 #[.agg x.cells.toArray] v fun e w' => e = .returned (.bool q) /\ Below v.heap.size v w' from fun v hv => by
  rw [<- hq]; exact Zfp K x n v (h.go (Keep.below hv)) hd)
 have HQ := Hid.mk hq
 have hk : x.k = 2 := by rw [h.k]; exact h2
 have hvn := h.v.2.1
 unfold EEPost
 rw [hq]
 have H2 := Hid.mk h2
 clear h hq hd h2
 go_enter Tryz.func65, Tryz.ntmps65
 go_upto_region 1 with fail
 refine gen_w (p := fun v => Code.wp _ _ _ _ v) (q := fun v => NBx w.heap.size v x /\ Below w.heap.size w v) ⟨B, HB.out⟩ ?_
 clear B HB
 rintro v ⟨B, hb⟩
 have HB := Hid.mk hb
 have HX := Hid.mk B
 clear hb B
 go_wp2_with (first | refine Za8 rfl _ rfl w.heap.size rfl x HX.out ?_)
 refine (HR1.out v HB.out).mono ?_
 rintro e w1 ⟨rfl, hb1⟩
 have HX1 := Hid.mk (HX.out.go hb1)
 have HB1 := Hid.mk (below_go HB.out hb1)
 clear hb1 HX HB
 cases q with
 | false =>
  go_wp2_with fail
  go_ret2
  exact ⟨⟨none, 0, 0, rfl, ⟨.inl ⟨rfl, rfl⟩, fun _ => ⟨rfl, rfl⟩, rfl, fun x hx => by cases hx⟩, fun g off h => by cases h⟩, HB1.out⟩
 | true =>
  obtain ⟨b1, b2, b3⟩ := Zc5 HH.out.okN HQ.out
  have HM := Hid.mk b1
  have HPL := Hid.mk (Zlf HQ.out).2
  have hpn : x.pn <= 1000 := by rw [<- HH.out.p.l]; exact HPL.out
  have HLT := Hid.mk (show w.heap.size < w1.heap.size from (Array.getElem?_eq_some_iff.1 HX1.out.row).1)
  clear b1 b2 b3
  go_upto_region 5 with fail
  obtain ⟨gI, hgI⟩ : ∃ gI, w1.heap.size = gI := ⟨_, rfl⟩
  refine gen_w (p := fun v => Code.wp _ _ _ _ v) (q := fun v => En w v x gI (.slice none 0 0)) ⟨by rw [<- hgI]; exact heap_alloc_new _ _, HX1.out.go (below_new _ _), below_go HB1.out (below_new _ _), by rw [<- hgI]; exact HLT.out, by simp [hgI]⟩ ?_
  intro v2 E2
  rw [hgI]
  have c0 := E2.bx.c0
  have c1 := E2.bx.c1
  rw [hk] at c0
  have HE2 := Hid.mk E2
  clear E2 HX1 HB1 HLT hgI
  have HPK := Hid.mk (Ni.rpack_any x.pa x.pn x.pc n.p false v2 (HH.out.p.1.at HE2.out.bel) (by omega))
  obtain ⟨pk, hpk⟩ : ∃ pk, (packP n.p false).1 = pk := ⟨_, rfl⟩
  rw [hpk] at HPK
  have HPKE := Hid.mk hpk
  have HPKL := Hid.mk (show pk.length <= 1000 from by
   rw [<- hpk]
   unfold packP
   split
   ·dsimp only; rw [Ni.pack_len]; have := HPL.out; omega
   ·simp)
  obtain ⟨per, hper⟩ : ∃ per : Nat, (packP n.p false).2 = per := ⟨_, rfl⟩
  rw [hper] at HPK
  clear hpk hper
  go_wp2_with fail
  refine HPK.out.mono ?_
  rintro e wP ⟨⟨a', m, c', rfl, hag⟩, hbP⟩
  have hEP := HE2.out.all hbP
  have d2 := hEP.c2
  have df := hEP.fz
  obtain ⟨it, w3, hrun, hb3, hsl, hz4, how4, hpd4⟩ := Zjx hEP hag (by have := hag.l; have := HPKL.out; omega) 92
  have HGB := Hid.mk hEP.sz
  have hE3 := hEP.go hb3
  have f2 := hE3.c2
  have ff := hE3.fz
  have HE4 := Hid.mk (hE3.put it)
  obtain ⟨ja, jm, jc, hit⟩ := hsl
  have HIT := Hid.mk hit
  have HZ4 := Hid.mk hz4
  have HOW4 := Hid.mk how4
  have HPD4 := Hid.mk hpd4
  rw [hit] at hrun
  have HRUN := Hid.mk hrun
  clear hag hbP hrun hb3 hz4 how4 hpd4 hE3 hEP hit c0 c1 HPK HE2
  go_upto_region 13 with (first | refine Zcc rfl _ _ rfl _ _ rfl rfl HRUN.out ?_)
  rw [<- HIT.out]
  generalize w3.setCell ⟨gI, 2, none⟩ it = u4 at HE4 HZ4 HOW4 HPD4 ⊢
  have g0 := HE4.out.bx.c0
  rw [hk] at g0
  clear d2 df f2 ff HRUN
  go_upto_region 15 with fail
  rename_i KK hkk
  refine wp_region_held_drew (S := fun v' => NBx w.heap.size v' x /\ Below w.heap.size w v') (by kernel_rfl) ⟨⟨HE4.out.bx.row, HE4.out.bx.l⟩, HE4.out.bel.drew⟩ (fun hS => ?_)
  have hE0 := HE4.out.drew
  refine Zaj 0 69 (.pointer (some ⟨gI, 2, none⟩)) rfl rfl (by kernel_rfl) (by kernel_rfl) (by kernel_rfl) (fun _ _ _ h => h) (by kernel_rfl) (fun v _ => by kernel_rfl) hS <| Zaj 2 71 (.pointer (some ⟨w.heap.size, 3, none⟩)) rfl rfl (by kernel_rfl) (by kernel_rfl) (by kernel_rfl) (fun _ _ _ h => h) (by kernel_rfl) (fun v _ => by kernel_rfl) hS <| Zaj 3 72 (.agg x.c.cells.toArray) rfl rfl (by kernel_rfl) (by kernel_rfl) (by kernel_rfl) (fun _ _ _ h => h) (by kernel_rfl) (fun v' hv => Zec rfl (by kernel_rfl) HH.out.c.len hv.1.child) hS <| wpAnyH_ready (rs := [1, 4]) (by kernel_rfl) (by simp) ?_
  refine Zbd 1 70 it rfl rfl (by kernel_rfl) (Zbh rfl (by kernel_rfl) hE0.c2) hS ?_ ?_
  ·refine wpAnyH_ready (rs := [4]) (by kernel_rfl) (by simp) ?_
   refine Zci 4 73 rfl rfl (by kernel_rfl) 77 #[.agg x.c.cells.toArray] (by kernel_rfl) (R := fun val w' => Below u4.drew.heap.size u4.drew w' /\ ∃ z : V, val = .agg #[.bool z.l, .slice z.ba z.bn z.bc, .slice z.ia z.m z.ic] /\ LiesP (fun b => u4.drew.heap.size <= b) w' (refItemP n.c) z) ((Zfk K x.c n.c u4.drew (HH.out.c.go (Keep.below hS.2))).mono (fun e w' h => Zb0 h (Nat.le_refl _))) (fun val w' h => ⟨hS.1.go h.1, below_go hS.2 h.1⟩) ?_ AllReadyH.nil
   rintro val u1 ⟨hb1, z, rfl, hz⟩
   have hS1 : NBx w.heap.size u1 x /\ Below w.heap.size w u1 := ⟨hS.1.go hb1, below_go hS.2 hb1⟩
   have hE1 := hE0.all hb1
   obtain ⟨v', w3, hrun, hb3, hfull⟩ := Zih (t := refItemP n.c) (y := z) hE0 HGB.out HZ4.out (Zca HOW4.out fun g _ hlt => rfl) HPD4.out.drew hb1 (fun w4 _ h4 => Zbg _ _ (Zak (Q := fun _ => True) (fun b hb hlt => ⟨h4 b hb hlt, trivial⟩) _ _ hz)) 92
   have hE2 : En w (u1.alloc (.cells #[.bool z.l, .slice z.ba z.bn z.bc, .slice z.ia z.m z.ic] 94)) x gI it := hE1.all (below_new _ _)
   have hE3 := hE0.go hb3
   have hE5 := hE3.put v'
   refine wpAnyH_ready (rs := [5]) (by kernel_rfl) (by simp) ?_
   refine Zbd 5 74 (.slice (some ⟨u1.heap.size, 0, none⟩) 1 1) rfl rfl (by kernel_rfl) (Zdo rfl z (by kernel_rfl)) ⟨hE2.bx, hE2.bel⟩ ?_ AllReadyH.nil
   refine wpAnyH_ready (rs := [6]) (by kernel_rfl) (by simp) ?_
   refine Zbd 6 75 v' rfl rfl (by kernel_rfl) (Zf9 rfl it (.slice (some ⟨u1.heap.size, 0, none⟩) 1 1) (by kernel_rfl) (by kernel_rfl) hrun) ⟨hE3.bx, hE3.bel⟩ ?_ AllReadyH.nil
   refine Zaj 7 76 (.pointer (some ⟨gI, 2, none⟩)) rfl rfl (by kernel_rfl) (by kernel_rfl) (by kernel_rfl) (fun _ _ _ h => h) (by kernel_rfl) (fun v _ => by kernel_rfl) ⟨hE3.bx, hE3.bel⟩ <| wpAnyH_ready (rs := [8]) (by kernel_rfl) (by simp) ?_
   refine Zbz 8 rfl rfl (by kernel_rfl) (Zdn rfl gI v' it (by obtain ⟨ia, ic, e, _⟩ := hfull; exact ⟨_, _, _, e⟩) (by kernel_rfl) (by kernel_rfl) hE3.c2 hE3.fz) ⟨hE5.bx, hE5.bel⟩ ?_ AllReadyH.nil
   refine wpAnyH_done (by kernel_rfl) ?_ _
   refine hkk _ _ ?_
   have HE5 := Hid.mk hE5
   obtain ⟨ia, m', ic, hv', hen⟩ := Zf0 (n := n) hfull (by simp) (by unfold itemP; rw [H2.out, if_neg (by decide), if_neg (by decide), HPKE.out]) HM.out
   subst hv'
   clear hE5 hE3 hE2 hE1 hE0 hS hS1 hfull hb3 hrun hz hb1 hkk
   generalize w3.setCell ⟨gI, 2, none⟩ (.slice ia m' ic) = u5 at HE5 hen ⊢
   go_frame
   have HEN := Hid.mk hen
   clear hen
   have k0 := HE5.out.c0
   have k1 := HE5.out.c1
   have k2 := HE5.out.c2
   go_wp2_with fail
   refine HEN.out.mono ?_
   rintro e w5 ⟨⟨a, m5, c5, rfl, hag, hnw⟩, hb5⟩
   have HAG := Hid.mk hag
   have HNW := Hid.mk (hnw.mono HE5.out.bel.size)
   have HB5 := Hid.mk (below_go HE5.out.bel hb5)
   clear hag hb5 hnw
   go_wp2_with fail
   go_ret2
   exact ⟨⟨a, m5, c5, rfl, HAG.out, HNW.out⟩, HB5.out⟩
  refine Zci 4 73 rfl rfl (by kernel_rfl) 77 #[.agg x.c.cells.toArray] (by kernel_rfl) (R := fun val w' => Below u4.drew.heap.size u4.drew w' /\ ∃ z : V, val = .agg #[.bool z.l, .slice z.ba z.bn z.bc, .slice z.ia z.m z.ic] /\ LiesP (fun b => u4.drew.heap.size <= b) w' (refItemP n.c) z) ((Zfk K x.c n.c u4.drew (HH.out.c.go (Keep.below hS.2))).mono (fun e w' h => Zb0 h (Nat.le_refl _))) (fun val w' h => ⟨hS.1.go h.1, below_go hS.2 h.1⟩) ?_ AllReadyH.nil
  rintro val u1 ⟨hb1, z, rfl, hz⟩
  have hS1 : NBx w.heap.size u1 x /\ Below w.heap.size w u1 := ⟨hS.1.go hb1, below_go hS.2 hb1⟩
  have hE1 := hE0.all hb1
  obtain ⟨v', w3, hrun, hb3, hfull⟩ := Zih (t := refItemP n.c) (y := z) hE0 HGB.out HZ4.out (Zca HOW4.out fun g _ hlt => rfl) HPD4.out.drew hb1 (fun w4 _ h4 => Zbg _ _ (Zak (Q := fun _ => True) (fun b hb hlt => ⟨h4 b hb hlt, trivial⟩) _ _ hz)) 92
  have hE2 : En w (u1.alloc (.cells #[.bool z.l, .slice z.ba z.bn z.bc, .slice z.ia z.m z.ic] 94)) x gI it := hE1.all (below_new _ _)
  have hE3 := hE0.go hb3
  have hE5 := hE3.put v'
  refine wpAnyH_ready (rs := [1, 5]) (by kernel_rfl) (by simp) ?_
  refine Zbd 1 70 it rfl rfl (by kernel_rfl) (Zbh rfl (by kernel_rfl) hE1.c2) hS1 ?_ ?_
  ·refine wpAnyH_ready (rs := [5]) (by kernel_rfl) (by simp) ?_
   refine Zbd 5 74 (.slice (some ⟨u1.heap.size, 0, none⟩) 1 1) rfl rfl (by kernel_rfl) (Zdo rfl z (by kernel_rfl)) ⟨hE2.bx, hE2.bel⟩ ?_ AllReadyH.nil
   refine wpAnyH_ready (rs := [6]) (by kernel_rfl) (by simp) ?_
   refine Zbd 6 75 v' rfl rfl (by kernel_rfl) (Zf9 rfl it (.slice (some ⟨u1.heap.size, 0, none⟩) 1 1) (by kernel_rfl) (by kernel_rfl) hrun) ⟨hE3.bx, hE3.bel⟩ ?_ AllReadyH.nil
   refine Zaj 7 76 (.pointer (some ⟨gI, 2, none⟩)) rfl rfl (by kernel_rfl) (by kernel_rfl) (by kernel_rfl) (fun _ _ _ h => h) (by kernel_rfl) (fun v _ => by kernel_rfl) ⟨hE3.bx, hE3.bel⟩ <| wpAnyH_ready (rs := [8]) (by kernel_rfl) (by simp) ?_
   refine Zbz 8 rfl rfl (by kernel_rfl) (Zdn rfl gI v' it (by obtain ⟨ia, ic, e, _⟩ := hfull; exact ⟨_, _, _, e⟩) (by kernel_rfl) (by kernel_rfl) hE3.c2 hE3.fz) ⟨hE5.bx, hE5.bel⟩ ?_ AllReadyH.nil
   refine wpAnyH_done (by kernel_rfl) ?_ _
   refine hkk _ _ ?_
   have HE5 := Hid.mk hE5
   obtain ⟨ia, m', ic, hv', hen⟩ := Zf0 (n := n) hfull (by simp) (by unfold itemP; rw [H2.out, if_neg (by decide), if_neg (by decide), HPKE.out]) HM.out
   subst hv'
   clear hE5 hE3 hE2 hE1 hE0 hS hS1 hfull hb3 hrun hz hb1 hkk
   generalize w3.setCell ⟨gI, 2, none⟩ (.slice ia m' ic) = u5 at HE5 hen ⊢
   go_frame
   have HEN := Hid.mk hen
   clear hen
   have k0 := HE5.out.c0
   have k1 := HE5.out.c1
   have k2 := HE5.out.c2
   go_wp2_with fail
   refine HEN.out.mono ?_
   rintro e w5 ⟨⟨a, m5, c5, rfl, hag, hnw⟩, hb5⟩
   have HAG := Hid.mk hag
   have HNW := Hid.mk (hnw.mono HE5.out.bel.size)
   have HB5 := Hid.mk (below_go HE5.out.bel hb5)
   clear hag hb5 hnw
   go_wp2_with fail
   go_ret2
   exact ⟨⟨a, m5, c5, rfl, HAG.out, HNW.out⟩, HB5.out⟩
  refine Zbd 5 74 (.slice (some ⟨u1.heap.size, 0, none⟩) 1 1) rfl rfl (by kernel_rfl) (Zdo rfl z (by kernel_rfl)) ⟨hE2.bx, hE2.bel⟩ ?_ AllReadyH.nil
  refine wpAnyH_ready (rs := [1]) (by kernel_rfl) (by simp) ?_
  refine Zbd 1 70 it rfl rfl (by kernel_rfl) (Zbh rfl (by kernel_rfl) hE2.c2) ⟨hE2.bx, hE2.bel⟩ ?_ AllReadyH.nil
  refine wpAnyH_ready (rs := [6]) (by kernel_rfl) (by simp) ?_
  refine Zbd 6 75 v' rfl rfl (by kernel_rfl) (Zf9 rfl it (.slice (some ⟨u1.heap.size, 0, none⟩) 1 1) (by kernel_rfl) (by kernel_rfl) hrun) ⟨hE3.bx, hE3.bel⟩ ?_ AllReadyH.nil
  refine Zaj 7 76 (.pointer (some ⟨gI, 2, none⟩)) rfl rfl (by kernel_rfl) (by kernel_rfl) (by kernel_rfl) (fun _ _ _ h => h) (by kernel_rfl) (fun v _ => by kernel_rfl) ⟨hE3.bx, hE3.bel⟩ <| wpAnyH_ready (rs := [8]) (by kernel_rfl) (by simp) ?_
  refine Zbz 8 rfl rfl (by kernel_rfl) (Zdn rfl gI v' it (by obtain ⟨ia, ic, e, _⟩ := hfull; exact ⟨_, _, _, e⟩) (by kernel_rfl) (by kernel_rfl) hE3.c2 hE3.fz) ⟨hE5.bx, hE5.bel⟩ ?_ AllReadyH.nil
  refine wpAnyH_done (by kernel_rfl) ?_ _
  refine hkk _ _ ?_
  have HE5 := Hid.mk hE5
  obtain ⟨ia, m', ic, hv', hen⟩ := Zf0 (n := n) hfull (by simp) (by unfold itemP; rw [H2.out, if_neg (by decide), if_neg (by decide), HPKE.out]) HM.out
  subst hv'
  clear hE5 hE3 hE2 hE1 hE0 hS hS1 hfull hb3 hrun hz hb1 hkk
  generalize w3.setCell ⟨gI, 2, none⟩ (.slice ia m' ic) = u5 at HE5 hen ⊢
  go_frame
  have HEN := Hid.mk hen
  clear hen
  have k0 := HE5.out.c0
  have k1 := HE5.out.c1
  have k2 := HE5.out.c2
  go_wp2_with fail
  refine HEN.out.mono ?_
  rintro e w5 ⟨⟨a, m5, c5, rfl, hag, hnw⟩, hb5⟩
  have HAG := Hid.mk hag
  have HNW := Hid.mk (hnw.mono HE5.out.bel.size)
  have HB5 := Hid.mk (below_go HE5.out.bel hb5)
  clear hag hb5 hnw
  go_wp2_with fail
  go_ret2
  exact ⟨⟨a, m5, c5, rfl, HAG.out, HNW.out⟩, HB5.out⟩
theorem Zry (K : Nat -> Prop) (x : NV) (n : PN) (w : World) (h : NodeAt K w x n) (hk : n.k = 1 \/ n.k = 2 \/ n.k = 3) (hd : ∀ r, (r = n.c \/ r ∈ n.ks) -> r.i.length < 32 -> DDSaid r.i) :
  Calls Tryz.prog 65 #[.agg x.cells.toArray] w (EEPost w n) := by
 rcases hk with hk | hk | hk
 ·exact Zuz K x n w h hk hd
 ·exact Zuy K x n w h hk hd
 ·exact Zux K x n w h hk hd
end Go.Proofs.YtdkpilgelgjieaaGreat

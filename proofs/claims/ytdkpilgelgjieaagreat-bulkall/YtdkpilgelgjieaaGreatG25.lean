/- What nodeOf answers. -/
import Derived.Test.YtdkpilgelgjieaaGreatG24
import Derived.Test.YtdkpilgelgjieaaGreatG14
import Derived.Test.YtdkpilgelgjieaaGreatG19
namespace Go.Proofs.YtdkpilgelgjieaaGreat
open Go.RowKit
set_option linter.unusedVariables false
set_option maxRecDepth 100000
/-- One thing of a list that lies in memory of which P holds. -/
structure AtP (P : Nat → Prop) (w : World) (a : Option Addr) (k : Nat) (t : T) (g off : Nat) (y : V) : Prop where
  ha : a = some ⟨g, off, none⟩
  c0 : w.cell? ⟨g, off + k * 3, none⟩ = some (.bool y.l)
  c1 : w.cell? ⟨g, off + k * 3 + 1, none⟩ = some (.slice y.ba y.bn y.bc)
  c2 : w.cell? ⟨g, off + k * 3 + 2, none⟩ = some (.slice y.ia y.m y.ic)
  li : LiesP P w t y
theorem liesPAll_at {P : Nat → Prop} {w : World} {a : Option Addr} : ∀ {its : List T} {k : Nat}, LiesPAll P w its a k → ∀ (i : Nat) (t : T), its[i]? = some t → ∃ g off y, AtP P w a (k + i) t g off y
  | [], k, _, i, t, h => by simp at h
  | x :: r, k, hl, i, t, h => by
    obtain ⟨⟨g, off, y, ⟨h1, _⟩, h2, h3, h4, h5⟩, hr⟩ := liesPAll_cons.1 hl
    cases i with
    | zero => simp at h; subst h; exact ⟨g, off, y, h1, h2, h3, h4, h5⟩
    | succ i =>
      obtain ⟨g', off', y', A⟩ := liesPAll_at hr i t (by simpa using h)
      rw [show k + 1 + i = k + (i + 1) from by omega] at A
      exact ⟨g', off', y', A⟩
theorem liesAll_take {w : World} {a : Option Addr} : ∀ {its : List T} {k : Nat} (n : Nat), LiesAll w its a k → LiesAll w (its.take n) a k
  | _, _, 0, _ => by rw [List.take_zero]; exact liesAll_nil
  | [], _, n + 1, _ => by rw [List.take_nil]; exact liesAll_nil
  | x :: r, k, n + 1, h => by
    rw [List.take_succ_cons]
    obtain ⟨h1, h2⟩ := liesAll_cons.1 h
    exact liesAll_cons.2 ⟨h1, liesAll_take n h2⟩
theorem liesAll_mono {w w' : World} (hb : Below w.heap.size w w') {a : Option Addr} : ∀ {its : List T} {k : Nat}, LiesAll w its a k → LiesAll w' its a k
  | [], _, _ => liesAll_nil
  | t :: r, k, h => by
    obtain ⟨⟨g, off, y, h1, h2, h3, h4, h5⟩, hr⟩ := liesAll_cons.1 h
    exact liesAll_cons.2 ⟨⟨g, off, y, h1, below_cell hb h2, below_cell hb h3, below_cell hb h4, lies_mono hb t y h5⟩, liesAll_mono hb hr⟩
theorem npost_parts {P : Nat → Prop} {w : World} {o : Option PN} {e : Ending} {w' : World} (h : NPost P w o e w') : ∃ v, e = .returned v ∧ (Below w.heap.size w w' ∧ ∃ (y : NV) (b : Bool), y.c.d.length = 32 ∧ v = .tuple #[.agg y.cells.toArray, .bool b] ∧ b = o.isSome ∧ ∀ n, o = some n → NodeAt (OwnP P w') w' y n) := by
  obtain ⟨hb, hm⟩ := h
  cases o with
  | none =>
    obtain ⟨y, hl, e1⟩ := hm
    exact ⟨_, e1, hb, y, false, hl, rfl, rfl, fun n h => by cases h⟩
  | some n =>
    obtain ⟨y, e1, hn⟩ := hm
    exact ⟨_, e1, hb, y, true, hn.c.len, rfl, rfl, fun m h => by cases h; exact hn⟩
section
variable {a : Act} {w : World}
theorem rd_slice16 {x : Operand} {g off m c : Nat} {o : Oper} (ho : o.op = .slice 92 x none (some (.const (.int .i64 16))) none) (hx : a.eval x = .slice (some ⟨g, off, none⟩) m c) (hc : 16 ≤ c) (hm : c ≤ 9223372036854775807) : (execOp a.eval o).run Tryz.prog w = .ok (.value (.slice (some ⟨g, off, none⟩) 16 c)) w := by
  have h1 : (16 : Int) ≤ c := by omega
  unfold execOp
  rw [ho]
  simp only [hx, Option.map]
  go_simp
end
set_option maxHeartbeats 8000000 in
theorem nodeOf_any (base : Nat) (t : T) (x : V) (w : World) (h : LiesP (fun b => base ≤ b) w t x) (hb : base ≤ w.heap.size) (hsz : ∀ u ∈ t.its, u.bs.length ≤ 16777216) :
    Calls Tryz.prog 122 #[.agg #[.bool x.l, .slice x.ba x.bn x.bc, .slice x.ia x.m x.ic]] w (NPost (fun g => base ≤ g) w (nodeOfP t)) := by
  obtain ⟨l, bs, its⟩ := t
  have hsz : ∀ u ∈ its, u.bs.length ≤ 16777216 := hsz
  have hq : LiesP (fun g => base ≤ g ∧ g ≠ w.heap.size + 1) w (.mk l bs its) x := liesP_mono (fun b hb hlt => ⟨rfl, hb, by omega⟩) _ x h
  obtain ⟨⟨hl, -, hm, hmc, hcm, -⟩, hall⟩ := liesP_eq.1 hq
  have hlall := (lies_eq.1 (liesP_lies _ _ hq)).2.2.2.2.2.2
  unfold maxLen at hcm
  subst hl
  have HM := Hid.mk hm
  have HALL := Hid.mk hall
  have HLA := Hid.mk hlall
  have HSZ := Hid.mk hsz
  obtain ⟨res, hres⟩ : ∃ res, nodeOfP (.mk x.l bs its) = res := ⟨_, rfl⟩
  rw [hres]
  have hres : (if its.length = 2 then pathP (its.getD 0 t0) (its.getD 1 t0) else if its.length = 17 then branchP (its.take 16) (its.getD 16 t0) else none) = res := hres
  rw [← hm] at hres
  have HRES := Hid.mk hres
  have HPB0 := Hid.mk (pb_new w x)
  have HBASE := Hid.mk hb
  clear h hb hsz hq hm hall hlall hres
  go_enter Tryz.func122, Tryz.ntmps122
  go_upto_region 1 with fail
  refine gen_w (p := fun v => Code.wp _ _ _ _ v) (q := fun v => Pb w v x) HPB0.out ?_
  clear HPB0
  intro v P0
  have c2 := P0.bx.c2
  have HPB := Hid.mk P0
  clear P0
  have HSC := Hid.mk (show ∀ w', Below v.drew.heap.size v.drew w' → B1 w.heap.size w' x ∧ Below w.heap.size w w' from fun w' hb => ⟨HPB.out.bx.go (below_go (Below.refl _ _).drew hb), below_go HPB.out.bel.drew hb⟩)
  have HSP := Hid.mk (show ∀ (w' : World) (C : Array Value), B1 w.heap.size w' x ∧ Below w.heap.size w w' → B1 w.heap.size (w'.setRow (w.heap.size + 1) C) x ∧ Below w.heap.size w (w'.setRow (w.heap.size + 1) C) from fun w' C h => ⟨b1_setRow h.1 (by omega), Below.setRow h.2 (by omega) _⟩)
  have HS0 := Hid.mk (show B1 w.heap.size v.drew x ∧ Below w.heap.size w v.drew from ⟨⟨HPB.out.bx.c0, HPB.out.bx.c1, HPB.out.bx.c2⟩, HPB.out.bel.drew⟩)
  have HEND := Hid.mk (show ∀ (w2 : World) (y' : NV) (b : Bool), y'.c.d.length = 32 → b = res.isSome → (∀ n, res = some n → NodeAt (OwnP (fun g => base ≤ g ∧ g ≠ w.heap.size + 1) w2) w2 y' n) → B1 w.heap.size w2 x ∧ Below w.heap.size w w2 → NPost (fun g => base ≤ g) w res (.returned (.tuple #[.agg y'.cells.toArray, .bool b])) (w2.setRow (w.heap.size + 1) y'.cells.toArray) from fun w2 y' b hl' hbr hna hS => by
    refine ⟨Below.setRow hS.2 (by omega) _, ?_⟩
    subst hbr
    cases res with
    | none => exact ⟨y', hl', rfl⟩
    | some n =>
      refine ⟨y', rfl, (hna n rfl).go fun k hK hk => ?_⟩
      have e : (w2.setRow (w.heap.size + 1) y'.cells.toArray).heap[k]? = w2.heap[k]? := setRow_other _ _ _ _ hK.1.2
      exact ⟨e, hK.1.1, fun o => (World.frozen?_of_block (w := w2) e).trans (hK.2 o)⟩)
  have HPP := Hid.mk (show ∀ g, v.drew.heap.size ≤ g → (base ≤ g ∧ g ≠ w.heap.size + 1) from fun g hg => by
    have h1 : v.heap.size ≤ g := hg
    have := HPB.out.sz
    have := HBASE.out
    omega)
  by_cases h2 : x.m = 2
  · have hr := HRES.out
    rw [if_pos h2] at hr
    have hl2 : its.length = 2 := by rw [← HM.out, h2]
    rw [h2] at c2
    obtain ⟨g, off, y0, A0⟩ := liesPAll_at HALL.out 0 (its.getD 0 t0) (by rw [List.getD, List.getElem?_eq_getElem (by omega)]; rfl)
    obtain ⟨g1, off1, y1, A1⟩ := liesPAll_at HALL.out 1 (its.getD 1 t0) (by rw [List.getD, List.getElem?_eq_getElem (by omega)]; rfl)
    have ha := A1.ha
    rw [A0.ha] at ha
    cases ha
    have HX0 := Hid.mk (HSZ.out _ (getD_memT (l := its) (i := 0) (by omega)))
    have hia := A0.ha
    rw [hia] at c2
    have HA0 := Hid.mk A0
    have HA1 := Hid.mk A1
    have HR := Hid.mk hr
    have HC2 := Hid.mk c2
    generalize its.getD 0 t0 = tt0 at HA0 HX0 HR
    generalize its.getD 1 t0 = tt1 at HA1 HR
    clear hl2 hia A0 A1 hr
    go_upto_region 3 with fail
    rename_i KK hkk
    refine wp_region_held_drew (S := fun v' => B1 w.heap.size v' x ∧ Below w.heap.size w v') (by kernel_rfl) HS0.out (fun hS => ?_)
    have hxia : ∀ v', B1 w.heap.size v' x → v'.cell? ⟨w.heap.size, 2, none⟩ = some (.slice (some ⟨g, off, none⟩) 2 x.ic) := fun v' hv => by have := hv.c2; rwa [HA0.out.ha, h2] at this
    refine rd_take 0 9 (.pointer (some ⟨w.heap.size, 2, none⟩)) rfl rfl (by kernel_rfl) (by kernel_rfl) (by kernel_rfl) (fun _ _ _ h => h) (by kernel_rfl) (fun v _ => by kernel_rfl) hS ?_
    refine rd_take 1 10 (.slice (some ⟨g, off, none⟩) 2 x.ic) rfl rfl (by kernel_rfl) (by kernel_rfl) (by kernel_rfl) (fun _ _ _ h => h) (by kernel_rfl) (fun v' hv => rd_loadL rfl (by kernel_rfl) (hxia v' hv.1)) hS ?_
    refine rd_take 2 11 (.pointer (some ⟨g, off + (0 + 0) * 3, none⟩)) rfl rfl (by kernel_rfl) (by kernel_rfl) (by kernel_rfl) (fun _ _ _ h => h) (by kernel_rfl) (fun v' _ => rd_index (j := 0 + 0) (m := 2) (c := x.ic) rfl (by kernel_rfl) (by kernel_rfl) (by omega)) hS ?_
    refine rd_take 3 12 (.agg #[.bool y0.l, .slice y0.ba y0.bn y0.bc, .slice y0.ia y0.m y0.ic]) rfl rfl (by kernel_rfl) (by kernel_rfl) (by kernel_rfl) (fun _ _ _ h => h) (by kernel_rfl) (fun v' hv => rd_loadI rfl (by kernel_rfl) (below_cell hv.2 HA0.out.c0) (below_cell hv.2 HA0.out.c1) (below_cell hv.2 HA0.out.c2)) hS ?_
    refine rd_take 4 13 (.pointer (some ⟨w.heap.size, 2, none⟩)) rfl rfl (by kernel_rfl) (by kernel_rfl) (by kernel_rfl) (fun _ _ _ h => h) (by kernel_rfl) (fun v _ => by kernel_rfl) hS ?_
    refine rd_take 5 14 (.slice (some ⟨g, off, none⟩) 2 x.ic) rfl rfl (by kernel_rfl) (by kernel_rfl) (by kernel_rfl) (fun _ _ _ h => h) (by kernel_rfl) (fun v' hv => rd_loadL rfl (by kernel_rfl) (hxia v' hv.1)) hS ?_
    refine rd_take 6 15 (.pointer (some ⟨g, off + (0 + 1) * 3, none⟩)) rfl rfl (by kernel_rfl) (by kernel_rfl) (by kernel_rfl) (fun _ _ _ h => h) (by kernel_rfl) (fun v' _ => rd_index (j := 0 + 1) (m := 2) (c := x.ic) rfl (by kernel_rfl) (by kernel_rfl) (by omega)) hS ?_
    refine rd_take 7 16 (.agg #[.bool y1.l, .slice y1.ba y1.bn y1.bc, .slice y1.ia y1.m y1.ic]) rfl rfl (by kernel_rfl) (by kernel_rfl) (by kernel_rfl) (fun _ _ _ h => h) (by kernel_rfl) (fun v' hv => rd_loadI rfl (by kernel_rfl) (below_cell hv.2 HA1.out.c0) (below_cell hv.2 HA1.out.c1) (below_cell hv.2 HA1.out.c2)) hS ?_
    refine wpAnyH_ready (rs := [8]) (by kernel_rfl) (by simp) ?_
    refine rd_call 8 17 rfl rfl (by kernel_rfl) 124 #[.agg #[.bool y0.l, .slice y0.ba y0.bn y0.bc, .slice y0.ia y0.m y0.ic], .agg #[.bool y1.l, .slice y1.ba y1.bn y1.bc, .slice y1.ia y1.m y1.ic]] (by kernel_rfl) (R := fun val w' => Below v.drew.heap.size v.drew w' ∧ ∃ (y : NV) (b : Bool), y.c.d.length = 32 ∧ val = .tuple #[.agg y.cells.toArray, .bool b] ∧ b = res.isSome ∧ ∀ n, res = some n → NodeAt (OwnP (fun g => base ≤ g ∧ g ≠ w.heap.size + 1) w') w' y n) (by rw [← HR.out]; exact (pathNode_any (fun g => base ≤ g ∧ g ≠ w.heap.size + 1) tt0 tt1 y0 y1 v.drew (lies_mono HPB.out.bel.drew _ _ (liesP_lies _ _ HA0.out.li)) (liesP_mono (fun b hb hlt => ⟨HPB.out.bel.drew.block b hlt, hb⟩) _ _ HA1.out.li) HPP.out HX0.out).mono (fun e w' h => npost_parts h)) (fun val w' h => HSC.out w' h.1) ?_ AllReadyH.nil
    rintro val w2 ⟨hb2, y', b, hl', rfl, hbr, hna⟩
    have hS2 := HSC.out w2 hb2
    have hrow : w2.heap[w.heap.size + 1]? = some (.cells nz.cells.toArray 104) := Below.row hb2 HPB.out.row
    refine rd_take 9 18 (.agg y'.cells.toArray) rfl rfl (by kernel_rfl) (by kernel_rfl) (by kernel_rfl) (fun _ _ _ h => h) (by kernel_rfl) (fun v _ => by kernel_rfl) hS2 ?_
    refine rd_take 10 19 (.bool b) rfl rfl (by kernel_rfl) (by kernel_rfl) (by kernel_rfl) (fun _ _ _ h => h) (by kernel_rfl) (fun v _ => by kernel_rfl) hS2 ?_
    refine wpAnyH_ready (rs := [11]) (by kernel_rfl) (by simp) ?_
    refine rd_run0 11 rfl rfl (by kernel_rfl) (rd_store 104 _ _ rfl (w.heap.size + 1) y'.cells.toArray (by kernel_rfl) (by kernel_rfl) 104 nz.cells.toArray hrow (infoN' hl') (nz_size hl') (all_oneCell_toArray (NV.one _))) (HSP.out _ _ hS2) ?_ AllReadyH.nil
    refine rd_take 12 3 (.bool b) rfl rfl (by kernel_rfl) (by kernel_rfl) (by kernel_rfl) (fun _ _ _ h => h) (by kernel_rfl) (fun v _ => by kernel_rfl) (HSP.out _ _ hS2) ?_
    refine wpAnyH_done (by kernel_rfl) ?_ _
    refine hkk _ _ ?_
    refine end_node Tryz.results122 (fun h => h) (w.heap.size + 1) y' (.bool b) hl' (by kernel_rfl) (by kernel_rfl) (by kernel_rfl) (setRow_heap _ _ _ _ _ _ hrow) ?_
    exact HEND.out w2 y' b hl' hbr hna hS2
  · by_cases h17 : x.m = 17
    · have hr := HRES.out
      rw [if_neg h2, if_pos h17] at hr
      have hl17 : its.length = 17 := by rw [← HM.out, h17]
      rw [h17] at c2 hmc
      obtain ⟨g, off, y1, A1⟩ := liesPAll_at HALL.out 16 (its.getD 16 t0) (by rw [List.getD, List.getElem?_eq_getElem (by omega)]; rfl)
      have hia := A1.ha
      rw [hia] at c2
      have HA1 := Hid.mk A1
      have HR := Hid.mk hr
      have hta := liesAll_take 16 HLA.out
      rw [hia] at hta
      have HTA := Hid.mk hta
      have HTL := Hid.mk (show (its.take 16).length = 16 from by rw [List.length_take]; omega)
      have H17 := Hid.mk h17
      generalize its.getD 16 t0 = tt1 at HA1 HR
      generalize its.take 16 = tts at HTA HTL HR
      clear hl17 hia A1 hr hta h17 h2
      go_upto_region 5 with fail
      rename_i KK hkk
      refine wp_region_held_drew (S := fun v' => B1 w.heap.size v' x ∧ Below w.heap.size w v') (by kernel_rfl) HS0.out (fun hS => ?_)
      have hxia : ∀ v', B1 w.heap.size v' x → v'.cell? ⟨w.heap.size, 2, none⟩ = some (.slice (some ⟨g, off, none⟩) 17 x.ic) := fun v' hv => by have := hv.c2; rwa [HA1.out.ha, H17.out] at this
      refine rd_take 0 22 (.pointer (some ⟨w.heap.size, 2, none⟩)) rfl rfl (by kernel_rfl) (by kernel_rfl) (by kernel_rfl) (fun _ _ _ h => h) (by kernel_rfl) (fun v _ => by kernel_rfl) hS ?_
      refine rd_take 1 23 (.slice (some ⟨g, off, none⟩) 17 x.ic) rfl rfl (by kernel_rfl) (by kernel_rfl) (by kernel_rfl) (fun _ _ _ h => h) (by kernel_rfl) (fun v' hv => rd_loadL rfl (by kernel_rfl) (hxia v' hv.1)) hS ?_
      refine rd_take 2 24 (.slice (some ⟨g, off, none⟩) 16 x.ic) rfl rfl (by kernel_rfl) (by kernel_rfl) (by kernel_rfl) (fun _ _ _ h => h) (by kernel_rfl) (fun v' _ => rd_slice16 (m := 17) rfl (by kernel_rfl) (by omega) (by omega)) hS ?_
      refine rd_take 3 25 (.pointer (some ⟨w.heap.size, 2, none⟩)) rfl rfl (by kernel_rfl) (by kernel_rfl) (by kernel_rfl) (fun _ _ _ h => h) (by kernel_rfl) (fun v _ => by kernel_rfl) hS ?_
      refine rd_take 4 26 (.slice (some ⟨g, off, none⟩) 17 x.ic) rfl rfl (by kernel_rfl) (by kernel_rfl) (by kernel_rfl) (fun _ _ _ h => h) (by kernel_rfl) (fun v' hv => rd_loadL rfl (by kernel_rfl) (hxia v' hv.1)) hS ?_
      refine rd_take 5 27 (.pointer (some ⟨g, off + (0 + 16) * 3, none⟩)) rfl rfl (by kernel_rfl) (by kernel_rfl) (by kernel_rfl) (fun _ _ _ h => h) (by kernel_rfl) (fun v' _ => rd_index (j := 0 + 16) (m := 17) (c := x.ic) rfl (by kernel_rfl) (by kernel_rfl) (by omega)) hS ?_
      refine rd_take 6 28 (.agg #[.bool y1.l, .slice y1.ba y1.bn y1.bc, .slice y1.ia y1.m y1.ic]) rfl rfl (by kernel_rfl) (by kernel_rfl) (by kernel_rfl) (fun _ _ _ h => h) (by kernel_rfl) (fun v' hv => rd_loadI rfl (by kernel_rfl) (below_cell hv.2 HA1.out.c0) (below_cell hv.2 HA1.out.c1) (below_cell hv.2 HA1.out.c2)) hS ?_
      refine wpAnyH_ready (rs := [7]) (by kernel_rfl) (by simp) ?_
      refine rd_call 7 29 rfl rfl (by kernel_rfl) 125 #[.slice (some ⟨g, off, none⟩) 16 x.ic, .agg #[.bool y1.l, .slice y1.ba y1.bn y1.bc, .slice y1.ia y1.m y1.ic]] (by kernel_rfl) (R := fun val w' => Below v.drew.heap.size v.drew w' ∧ ∃ (y : NV) (b : Bool), y.c.d.length = 32 ∧ val = .tuple #[.agg y.cells.toArray, .bool b] ∧ b = res.isSome ∧ ∀ n, res = some n → NodeAt (OwnP (fun g => base ≤ g ∧ g ≠ w.heap.size + 1) w') w' y n) (by rw [← HR.out]; exact (branchNode_any (fun g => base ≤ g ∧ g ≠ w.heap.size + 1) tts (some ⟨g, off, none⟩) x.ic tt1 y1 v.drew HTL.out (liesAll_mono HPB.out.bel.drew HTA.out) ⟨by omega, by unfold maxLen; omega⟩ (liesP_mono (fun b hb hlt => ⟨HPB.out.bel.drew.block b hlt, hb⟩) _ _ HA1.out.li) HPP.out).mono (fun e w' h => npost_parts h)) (fun val w' h => HSC.out w' h.1) ?_ AllReadyH.nil
      rintro val w2 ⟨hb2, y', b, hl', rfl, hbr, hna⟩
      have hS2 := HSC.out w2 hb2
      have hrow : w2.heap[w.heap.size + 1]? = some (.cells nz.cells.toArray 104) := Below.row hb2 HPB.out.row
      refine rd_take 8 30 (.agg y'.cells.toArray) rfl rfl (by kernel_rfl) (by kernel_rfl) (by kernel_rfl) (fun _ _ _ h => h) (by kernel_rfl) (fun v _ => by kernel_rfl) hS2 ?_
      refine rd_take 9 31 (.bool b) rfl rfl (by kernel_rfl) (by kernel_rfl) (by kernel_rfl) (fun _ _ _ h => h) (by kernel_rfl) (fun v _ => by kernel_rfl) hS2 ?_
      refine wpAnyH_ready (rs := [10]) (by kernel_rfl) (by simp) ?_
      refine rd_run0 10 rfl rfl (by kernel_rfl) (rd_store 104 _ _ rfl (w.heap.size + 1) y'.cells.toArray (by kernel_rfl) (by kernel_rfl) 104 nz.cells.toArray hrow (infoN' hl') (nz_size hl') (all_oneCell_toArray (NV.one _))) (HSP.out _ _ hS2) ?_ AllReadyH.nil
      refine rd_take 11 3 (.bool b) rfl rfl (by kernel_rfl) (by kernel_rfl) (by kernel_rfl) (fun _ _ _ h => h) (by kernel_rfl) (fun v _ => by kernel_rfl) (HSP.out _ _ hS2) ?_
      refine wpAnyH_done (by kernel_rfl) ?_ _
      refine hkk _ _ ?_
      refine end_node Tryz.results122 (fun h => h) (w.heap.size + 1) y' (.bool b) hl' (by kernel_rfl) (by kernel_rfl) (by kernel_rfl) (setRow_heap _ _ _ _ _ _ hrow) ?_
      exact HEND.out w2 y' b hl' hbr hna hS2
    · have hr := HRES.out
      rw [if_neg h2, if_neg h17] at hr
      subst hr
      have e2 : ((x.m : Int) == 2) = false := by rw [beq_eq_false_iff_ne]; omega
      have e17 : ((x.m : Int) == 17) = false := by rw [beq_eq_false_iff_ne]; omega
      go_wp2_with (first | refine wpList_store_row rfl 104 _ _ rfl _ nz.cells.toArray rfl rfl 104 _ HPB.out.row (infoN' rfl) (nz_size rfl) (all_oneCell_toArray (NV.one _)) ?_)
      refine bodyPost_ret (results_node Tryz.results122 _ _ (w.heap.size + 1) nz rfl rfl (setRow_heap _ _ _ _ _ _ HPB.out.row)) rfl ?_
      exact ⟨Below.setRow HPB.out.bel (by omega) _, nz, rfl, rfl⟩
end Go.Proofs.YtdkpilgelgjieaaGreat
/- What rightPath and rightValue answer. -/
namespace Go.Proofs.YtdkpilgelgjieaaGreat
open Go.RowKit
set_option linter.unusedVariables false
set_option maxRecDepth 100000
set_option maxHeartbeats 1000000 in
theorem rightPath_any (K : Nat → Prop) (x : NV) (n : PN) (w : World) (h : NodeAt K w x n) :
    Calls Tryz.prog 96 #[.agg x.cells.toArray] w fun e w' => e = .returned (.bool (rpathP n)) ∧ Below w.heap.size w w' := by
  have B := nbx_new w x h.c.len
  have HB := Hid.mk (below_new w (.cells x.cells.toArray 104))
  have hk := h.k
  have hp := h.p
  have hpb := hp.2.1
  have HL := Hid.mk hp.l
  have HRR := Hid.mk (show ∀ v, Below w.heap.size w v → Calls Tryz.prog 67 #[.slice x.pa x.pn x.pc] v fun e w' => e = .returned (.bool (Ni.rightP n.p)) ∧ w' = v from fun v hv => Ni.right_any _ _ _ _ v (hp.1.at hv) (by omega))
  obtain ⟨rp, hrp⟩ : ∃ rp, Ni.rightP n.p = rp := ⟨_, rfl⟩
  obtain ⟨res, hres⟩ : ∃ res, rpathP n = res := ⟨_, rfl⟩
  rw [hres]
  unfold rpathP at hres
  rw [HL.out, hrp, ← hk] at hres
  rw [hrp] at HRR
  have HRES := Hid.mk hres
  clear hp h hk hres hrp
  go_enter Tryz.func96, Tryz.ntmps96
  go_upto_region 1 with fail
  refine gen_w (p := fun v => Code.wp _ _ _ _ v) (q := fun v => NBx w.heap.size v x ∧ Below w.heap.size w v) ⟨B, HB.out⟩ ?_
  clear B HB
  rintro v ⟨B, hb⟩
  have HB := Hid.mk hb
  have c0 := B.c0
  have c1 := B.c1
  clear hb B
  by_cases h2 : x.k = 2
  · by_cases h0 : x.pn = 0
    · go_wp2_with fail
      have hr := HRES.out
      simp [h2, h0] at hr
      subst hr
      go_ret
      first | exact ⟨rfl, HB.out⟩ | (refine ⟨congrArg (fun b => Ending.returned (Value.bool b)) ?_, HB.out⟩; first | (simp; done) | (simp; omega))
    · by_cases h64 : x.pn ≤ 64
      · go_wp2_with fail
        refine (HRR.out v HB.out).mono ?_
        rintro e w1 ⟨rfl, rfl⟩
        go_wp2_with fail
        have hr := HRES.out
        simp [h2, h0, h64] at hr
        subst hr
        go_ret
        first | exact ⟨rfl, HB.out⟩ | (refine ⟨congrArg (fun b => Ending.returned (Value.bool b)) ?_, HB.out⟩; first | (simp; done) | (simp; omega))
      · go_wp2_with fail
        have hr := HRES.out
        simp [h2, h0, h64] at hr
        subst hr
        go_ret
        first | exact ⟨rfl, HB.out⟩ | (refine ⟨congrArg (fun b => Ending.returned (Value.bool b)) ?_, HB.out⟩; first | (simp; done) | (simp; omega))
  · by_cases h1 : x.k = 1
    · by_cases h64 : x.pn ≤ 64
      · go_wp2_with fail
        refine (HRR.out v HB.out).mono ?_
        rintro e w1 ⟨rfl, rfl⟩
        go_wp2_with fail
        have hr := HRES.out
        simp [h1, h64] at hr
        subst hr
        go_ret
        first | exact ⟨rfl, HB.out⟩ | (refine ⟨congrArg (fun b => Ending.returned (Value.bool b)) ?_, HB.out⟩; first | (simp; done) | (simp; omega))
      · go_wp2_with fail
        have hr := HRES.out
        simp [h1, h64] at hr
        subst hr
        go_ret
        first | exact ⟨rfl, HB.out⟩ | (refine ⟨congrArg (fun b => Ending.returned (Value.bool b)) ?_, HB.out⟩; first | (simp; done) | (simp; omega))
    · by_cases h0 : x.pn = 0
      · go_wp2_with fail
        have hr := HRES.out
        simp [h1, h2, h0] at hr
        subst hr
        go_ret
        first | exact ⟨rfl, HB.out⟩ | (refine ⟨congrArg (fun b => Ending.returned (Value.bool b)) ?_, HB.out⟩; first | (simp; done) | (simp; omega))
      · go_wp2_with fail
        have hr := HRES.out
        simp [h1, h2, h0] at hr
        subst hr
        go_ret
        first | exact ⟨rfl, HB.out⟩ | (refine ⟨congrArg (fun b => Ending.returned (Value.bool b)) ?_, HB.out⟩; first | (simp; done) | (simp; omega))
set_option maxHeartbeats 1000000 in
theorem rightValue_any (K : Nat → Prop) (x : NV) (n : PN) (w : World) (h : NodeAt K w x n) :
    Calls Tryz.prog 97 #[.agg x.cells.toArray] w fun e w' => e = .returned (.bool (rvalueP n)) ∧ Below w.heap.size w w' := by
  have B := nbx_new w x h.c.len
  have HB := Hid.mk (below_new w (.cells x.cells.toArray 104))
  have hk := h.k
  have hp := h.v
  have hpb := hp.2.1
  have HL := Hid.mk hp.l
  obtain ⟨res, hres⟩ : ∃ res, rvalueP n = res := ⟨_, rfl⟩
  rw [hres]
  unfold rvalueP at hres
  rw [HL.out, ← hk] at hres
  have HRES := Hid.mk hres
  clear hp h hk hres
  go_enter Tryz.func97, Tryz.ntmps97
  go_upto_region 1 with fail
  refine gen_w (p := fun v => Code.wp _ _ _ _ v) (q := fun v => NBx w.heap.size v x ∧ Below w.heap.size w v) ⟨B, HB.out⟩ ?_
  clear B HB
  rintro v ⟨B, hb⟩
  have HB := Hid.mk hb
  have c0 := B.c0
  have c1 := B.c2
  clear hb B
  by_cases h2 : x.k = 1
  · by_cases h0 : x.vn = 0
    · go_wp2_with fail
      have hr := HRES.out
      simp [h2, h0] at hr
      subst hr
      go_ret
      first | exact ⟨rfl, HB.out⟩ | (refine ⟨congrArg (fun b => Ending.returned (Value.bool b)) ?_, HB.out⟩; first | (simp; done) | (simp; omega))
    · by_cases h64 : x.vn ≤ 256
      · go_wp2_with fail
        have hr := HRES.out
        simp [h2, h0, h64] at hr
        subst hr
        go_ret
        first | exact ⟨rfl, HB.out⟩ | (refine ⟨congrArg (fun b => Ending.returned (Value.bool b)) ?_, HB.out⟩; first | (simp; done) | (simp; omega))
      · go_wp2_with fail
        have hr := HRES.out
        simp [h2, h0, h64] at hr
        subst hr
        go_ret
        first | exact ⟨rfl, HB.out⟩ | (refine ⟨congrArg (fun b => Ending.returned (Value.bool b)) ?_, HB.out⟩; first | (simp; done) | (simp; omega))
  · by_cases h1 : x.k = 3
    · by_cases h64 : x.vn ≤ 256
      · go_wp2_with fail
        have hr := HRES.out
        simp [h1, h64] at hr
        subst hr
        go_ret
        first | exact ⟨rfl, HB.out⟩ | (refine ⟨congrArg (fun b => Ending.returned (Value.bool b)) ?_, HB.out⟩; first | (simp; done) | (simp; omega))
      · go_wp2_with fail
        have hr := HRES.out
        simp [h1, h64] at hr
        subst hr
        go_ret
        first | exact ⟨rfl, HB.out⟩ | (refine ⟨congrArg (fun b => Ending.returned (Value.bool b)) ?_, HB.out⟩; first | (simp; done) | (simp; omega))
    · by_cases h0 : x.vn = 0
      · go_wp2_with fail
        have hr := HRES.out
        simp [h1, h2, h0] at hr
        subst hr
        go_ret
        first | exact ⟨rfl, HB.out⟩ | (refine ⟨congrArg (fun b => Ending.returned (Value.bool b)) ?_, HB.out⟩; first | (simp; done) | (simp; omega))
      · go_wp2_with fail
        have hr := HRES.out
        simp [h1, h2, h0] at hr
        subst hr
        go_ret
        first | exact ⟨rfl, HB.out⟩ | (refine ⟨congrArg (fun b => Ending.returned (Value.bool b)) ?_, HB.out⟩; first | (simp; done) | (simp; omega))
end Go.Proofs.YtdkpilgelgjieaaGreat
/- What rightRef answers, where Decode of what is inline answers as it should. -/
namespace Go.Proofs.YtdkpilgelgjieaaGreat
open Go.RowKit
set_option linter.unusedVariables false
set_option maxRecDepth 100000
theorem z32_len : z32.length = 32 := rfl
set_option maxHeartbeats 2000000 in
theorem rightRef_any (K : Nat → Prop) (x : RV) (r : PR) (w : World) (h : RefAt K w x r) (hd : r.i.length < 32 → DecSaid r.i) :
    Calls Tryz.prog 110 #[.agg x.cells.toArray] w fun e w' => e = .returned (.bool (rrefP KD r)) ∧ Below w.heap.size w w' := by
  have B := rbx_new w x h.len
  have HB := Hid.mk (below_new w (.cells x.cells.toArray 60))
  have HK := Hid.mk (show x.n < 32 → ∀ v, Below w.heap.size w v → Calls Tryz.prog 111 #[.agg x.cells.toArray] v fun e w' => e = .returned (.int .i64 (KD r.i)) ∧ Below v.heap.size v w' from fun hx v hv => inlineKind_any K x r v (h.go (Keep.below hv)) (hd (by rw [h.2.2.2.2.l]; exact hx)))
  obtain ⟨res, hres⟩ : ∃ res, rrefP KD r = res := ⟨_, rfl⟩
  obtain ⟨kr, hkr⟩ : ∃ kr, KD r.i = kr := ⟨_, rfl⟩
  rw [hres]
  rw [hkr] at HK
  unfold rrefP at hres
  rw [hkr, ← h.1, ← h.2.1, h.2.2.2.2.l] at hres
  have HRES := Hid.mk hres
  have hl := h.len
  have hnb := h.2.2.2.2.2.1
  clear h hd hkr hres
  go_enter Tryz.func110, Tryz.ntmps110
  go_upto_region 1 with fail
  refine gen_w (p := fun v => Code.wp _ _ _ _ v) (q := fun v => RBx w.heap.size v x ∧ Below w.heap.size w v) ⟨B, HB.out⟩ ?_
  clear B HB
  rintro v ⟨B, hb⟩
  have HB := Hid.mk hb
  have HX := Hid.mk B
  have HLX := Hid.mk hl
  have c0 := B.c0
  have c1 := B.c33
  clear hb B hl
  by_cases h0 : x.k = 0
  · by_cases hz : x.d = z32
    · have HQ := Hid.mk (show (!(x.d == z32)) = false from by simp [hz])
      have HZ := Hid.mk hz
      clear hz
      go_wp2_with (first | refine wpl_loadD rfl _ rfl w.heap.size 1 rfl x.d HLX.out HX.out.digest ?_ | refine wpl_neD rfl _ _ rfl x.d z32 rfl rfl HLX.out z32_len false HQ.out ?_ | refine wpl_eqD rfl _ _ rfl x.d z32 rfl rfl HLX.out z32_len false HQ.out ?_ | refine wpl_loadR rfl _ rfl w.heap.size 0 rfl x HLX.out HX.out.all ?_)
      go_ret
      refine ⟨congrArg (fun b => Ending.returned (Value.bool b)) ?_, HB.out⟩
      rw [← HRES.out, Bool.eq_iff_iff]
      first | (simp [h0, HZ.out]; done) | (simp [h0, HZ.out]; omega)
    · have HQ := Hid.mk (show (!(x.d == z32)) = true from by simp [hz])
      have HZ := Hid.mk hz
      clear hz
      go_wp2_with (first | refine wpl_loadD rfl _ rfl w.heap.size 1 rfl x.d HLX.out HX.out.digest ?_ | refine wpl_neD rfl _ _ rfl x.d z32 rfl rfl HLX.out z32_len true HQ.out ?_ | refine wpl_eqD rfl _ _ rfl x.d z32 rfl rfl HLX.out z32_len true HQ.out ?_ | refine wpl_loadR rfl _ rfl w.heap.size 0 rfl x HLX.out HX.out.all ?_)
      go_ret
      refine ⟨congrArg (fun b => Ending.returned (Value.bool b)) ?_, HB.out⟩
      rw [← HRES.out, Bool.eq_iff_iff]
      first | (simp [h0, HZ.out]; done) | (simp [h0, HZ.out]; omega)
  · by_cases h2 : x.k = 2
    · go_wp2_with fail
      go_ret
      refine ⟨congrArg (fun b => Ending.returned (Value.bool b)) ?_, HB.out⟩
      rw [← HRES.out, Bool.eq_iff_iff]
      first | (simp [h2]; done) | (simp [h2]; omega)
    · by_cases h1 : x.k = 1
      · by_cases hz : x.d = z32
        · have HQ := Hid.mk (show (x.d == z32) = true from by simp [hz])
          have HZ := Hid.mk hz
          clear hz
          by_cases h32 : x.n < 32
          · have hi32 : (x.n : Int) < 32 := by omega
            go_wp2_with (first | refine wpl_loadD rfl _ rfl w.heap.size 1 rfl x.d HLX.out HX.out.digest ?_ | refine wpl_neD rfl _ _ rfl x.d z32 rfl rfl HLX.out z32_len true HQ.out ?_ | refine wpl_eqD rfl _ _ rfl x.d z32 rfl rfl HLX.out z32_len true HQ.out ?_ | refine wpl_loadR rfl _ rfl w.heap.size 0 rfl x HLX.out HX.out.all ?_)
            refine (HK.out h32 v HB.out).mono ?_
            rintro e w1 ⟨rfl, hb1⟩
            have HB1 := Hid.mk (below_go HB.out hb1)
            clear hb1
            go_wp2_with fail
            go_ret
            refine ⟨congrArg (fun b => Ending.returned (Value.bool b)) ?_, HB1.out⟩
            rw [← HRES.out, Bool.eq_iff_iff]
            first | (simp [h1, HZ.out, h32]; done) | (simp [h1, HZ.out, h32]; omega)
          · have hi32 : ¬ (x.n : Int) < 32 := by omega
            go_wp2_with (first | refine wpl_loadD rfl _ rfl w.heap.size 1 rfl x.d HLX.out HX.out.digest ?_ | refine wpl_neD rfl _ _ rfl x.d z32 rfl rfl HLX.out z32_len true HQ.out ?_ | refine wpl_eqD rfl _ _ rfl x.d z32 rfl rfl HLX.out z32_len true HQ.out ?_ | refine wpl_loadR rfl _ rfl w.heap.size 0 rfl x HLX.out HX.out.all ?_)
            go_ret
            refine ⟨congrArg (fun b => Ending.returned (Value.bool b)) ?_, HB.out⟩
            rw [← HRES.out, Bool.eq_iff_iff]
            first | (simp [h1, HZ.out, h32]; done) | (simp [h1, HZ.out, h32]; omega)
        · have HQ := Hid.mk (show (x.d == z32) = false from by simp [hz])
          have HZ := Hid.mk hz
          clear hz
          go_wp2_with (first | refine wpl_loadD rfl _ rfl w.heap.size 1 rfl x.d HLX.out HX.out.digest ?_ | refine wpl_neD rfl _ _ rfl x.d z32 rfl rfl HLX.out z32_len false HQ.out ?_ | refine wpl_eqD rfl _ _ rfl x.d z32 rfl rfl HLX.out z32_len false HQ.out ?_ | refine wpl_loadR rfl _ rfl w.heap.size 0 rfl x HLX.out HX.out.all ?_)
          go_ret
          refine ⟨congrArg (fun b => Ending.returned (Value.bool b)) ?_, HB.out⟩
          rw [← HRES.out, Bool.eq_iff_iff]
          first | (simp [h1, HZ.out]; done) | (simp [h1, HZ.out]; omega)
      · go_wp2_with fail
        go_ret
        refine ⟨congrArg (fun b => Ending.returned (Value.bool b)) ?_, HB.out⟩
        rw [← HRES.out, Bool.eq_iff_iff]
        first | (simp [h0, h2, h1]; done) | (simp [h0, h2, h1]; omega)
end Go.Proofs.YtdkpilgelgjieaaGreat
/- What rightChild answers. -/
namespace Go.Proofs.YtdkpilgelgjieaaGreat
open Go.RowKit
set_option linter.unusedVariables false
set_option maxRecDepth 100000
set_option maxHeartbeats 2000000 in
theorem rightChild_any (K : Nat → Prop) (x : NV) (n : PN) (w : World) (h : NodeAt K w x n) (hd : n.c.i.length < 32 → DecSaid n.c.i) :
    Calls Tryz.prog 98 #[.agg x.cells.toArray] w fun e w' => e = .returned (.bool (rchildP KD n)) ∧ Below w.heap.size w w' := by
  have B := nbx_new w x h.c.len
  have HB := Hid.mk (below_new w (.cells x.cells.toArray 104))
  obtain ⟨q, hq⟩ : ∃ q, rrefP KD n.c = q := ⟨_, rfl⟩
  have HR := Hid.mk (show ∀ v, Below w.heap.size w v → Calls Tryz.prog 110 #[.agg x.c.cells.toArray] v fun e w' => e = .returned (.bool q) ∧ Below v.heap.size v w' from fun v hv => by
    rw [← hq]; exact rightRef_any K x.c n.c v (h.c.go (Keep.below hv)) hd)
  obtain ⟨kr, hkr⟩ : ∃ kr, KD n.c.i = kr := ⟨_, rfl⟩
  have HK := Hid.mk (show q = true → ∀ v, Below w.heap.size w v → Calls Tryz.prog 111 #[.agg x.c.cells.toArray] v fun e w' => e = .returned (.int .i64 kr) ∧ Below v.heap.size v w' from fun hqt v hv => by
    rw [← hkr]; exact inlineKind_any K x.c n.c v (h.c.go (Keep.below hv)) (hd (rref_short (hq.trans hqt))))
  obtain ⟨res, hres⟩ : ∃ res, rchildP KD n = res := ⟨_, rfl⟩
  rw [hres]
  unfold rchildP at hres
  rw [hkr, hq, ← h.k, ← h.c.1] at hres
  have HRES := Hid.mk hres
  have HLX := Hid.mk h.c.len
  clear h hd hkr hres hq
  go_enter Tryz.func98, Tryz.ntmps98
  go_upto_region 1 with fail
  refine gen_w (p := fun v => Code.wp _ _ _ _ v) (q := fun v => NBx w.heap.size v x ∧ Below w.heap.size w v) ⟨B, HB.out⟩ ?_
  clear B HB
  rintro v ⟨B, hb⟩
  have HB := Hid.mk hb
  have HX := Hid.mk B
  clear hb B
  go_wp2_with (first | refine wpl_loadR rfl _ rfl w.heap.size 3 rfl x.c HLX.out HX.out.child ?_)
  refine (HR.out v HB.out).mono ?_
  rintro e w1 ⟨rfl, hb1⟩
  have B1 := HX.out.go hb1
  have HB1 := Hid.mk (below_go HB.out hb1)
  have c0 := B1.c0
  have c3 := B1.c3
  have HX1 := Hid.mk B1
  clear hb1 B1 HX HB
  cases q with
  | false =>
    go_wp2_with fail
    go_ret
    refine ⟨congrArg (fun b => Ending.returned (Value.bool b)) ?_, HB1.out⟩
    rw [← HRES.out, Bool.eq_iff_iff]
    first | (simp; done) | (simp; omega)
  | true =>
    by_cases h2 : x.k = 2
    · by_cases hc : x.c.k = 2
      · go_wp2_with fail
        go_ret
        refine ⟨congrArg (fun b => Ending.returned (Value.bool b)) ?_, HB1.out⟩
        rw [← HRES.out, Bool.eq_iff_iff]
        first | (simp [h2, hc]; done) | (simp [h2, hc]; omega)
      · have hcq : (x.c.k == 2) = false := by simp [hc]
        go_wp2_with (first | refine wpl_loadR rfl _ rfl w.heap.size 3 rfl x.c HLX.out HX1.out.child ?_)
        refine (HK.out (by trivial) w1 HB1.out).mono ?_
        rintro e w2 ⟨rfl, hb2⟩
        have HB2 := Hid.mk (below_go HB1.out hb2)
        clear hb2
        go_wp2_with fail
        go_ret
        refine ⟨congrArg (fun b => Ending.returned (Value.bool b)) ?_, HB2.out⟩
        rw [← HRES.out, Bool.eq_iff_iff]
        first | (simp [h2, hc]; done) | (simp [h2, hc]; omega)
    · go_wp2_with fail
      go_ret
      refine ⟨congrArg (fun b => Ending.returned (Value.bool b)) ?_, HB1.out⟩
      rw [← HRES.out, Bool.eq_iff_iff]
      first | (simp [h2]; done) | (simp [h2]; omega)
end Go.Proofs.YtdkpilgelgjieaaGreat

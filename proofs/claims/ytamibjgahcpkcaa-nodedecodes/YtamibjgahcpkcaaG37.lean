/- That NodeRefers answers true. -/
import Derived.Test.YtamibjgahcpkcaaG26
import Derived.Test.YtamibjgahcpkcaaG36
import Derived.Test.YtamibjgahcpkcaaG00
import Derived.ProofKit
import Derived.OpenShut
import Derived.ShutString
import Derived.ChangeOld
import Derived.SizedLaws
namespace Go.Proofs.Ytamibjgahcpkcaa
open Go.RowKit
open Di (dref)
set_option linter.unusedVariables false
set_option maxRecDepth 100000
theorem rd_eqDig {a : Act} {w : World} {x y : Operand} {o : Oper} {ds : List Int} (ho : o.op = .binOp .eql 24 x y 24) (hx : a.eval x = .agg (B8 ds)) (hy : a.eval y = .agg (B8 ds)) (hl : ds.length = 32) : (execOp a.eval o).run Try.prog w = .ok (.value (.bool true)) w := by
  have e := eqD ds ds hl hl
  rw [beq_self_eq_true] at e
  unfold execOp
  rw [ho]
  simp only [hx, hy]
  go_simp
/-- What holds while the bytes that were handed in are written over. -/
def Gr (w w1 w2 u : World) (y : RV) (a1 : Option Addr) (n : Nat) (b : List Int) : Prop := RBx w2.heap.size u y ∧ RefAt (Own w1.heap.size u) u y (referP b) ∧ Below w.heap.size w u ∧ ∀ g0, a1 = some ⟨g0, 0, none⟩ → 0 < n → ∃ cur : Array Value, u.heap[g0]? = some (.cells cur 5) ∧ n ≤ cur.size
theorem gr_put {w w1 w2 u : World} {y : RV} {g0 n j : Nat} {b : List Int} (h : Gr w w1 w2 u y (some ⟨g0, 0, none⟩) n b) (h0 : 0 < n) (hg : w.heap.size ≤ g0) (hg1 : g0 < w1.heap.size) (hw : w1.heap.size ≤ w2.heap.size) (v : Value) : Gr w w1 w2 (u.setCell ⟨g0, j, none⟩ v) y (some ⟨g0, 0, none⟩) n b := by
  obtain ⟨h1, h2, h3, h4⟩ := h
  have ho : ∀ k, k ≠ g0 → (u.setCell ⟨g0, j, none⟩ v).heap[k]? = u.heap[k]? := fun k hk => heap_setCell_other _ _ _ _ hk
  refine ⟨⟨(ho _ (by omega)).trans h1.row, h1.l⟩, h2.go fun k hK hk => ?_, h3.setCell hg v, fun g e h0' => ?_⟩
  · have e := ho k (by have := hK.1; omega)
    exact ⟨e, hK.1, fun o => (World.frozen?_of_block (w := u) e).trans (hK.2 o)⟩
  · cases e
    obtain ⟨cur, hc, hn⟩ := h4 g0 rfl h0
    exact ⟨_, heap_setCell_same u g0 j _ 5 v hc, by simpa using hn⟩
set_option maxHeartbeats 8000000 in
theorem refers_law (a : Option Addr) (n c : Nat) (b : List Int) (hn : n ≤ 140737488351232) (w : World) (hag : Ag w a n c b) :
    Calls Try.prog 6 #[.slice a n c] w fun e w' => e = .returned (.bool true) ∧ Below w.heap.size w w' := by
  have HAG := Hid.mk hag
  have HLB := Hid.mk hag.l
  clear hag
  go_enter Try.func6, Try.ntmps6
  go_upto_region 1 with fail
  rename_i KK hkk
  refine wp_region_lit ?_
  refine wl_run 7 (.slice (some ⟨w.heap.size, 0, none⟩) 0 0) rfl (by kernel_rfl) (rd_none rfl) ?_
  refine wl_pure 8 (.slice a n c) rfl (by kernel_rfl) (by kernel_rfl) ?_
  have hag2 := HAG.out.at (below_new w (.cells #[] 5))
  refine app_any rfl (.tmp 7) (.tmp 8) rfl w.heap.size _ [] (by kernel_rfl) (OwnB.new w) a n c b (by kernel_rfl) hag2.i hag2.nil hag2.l (by simp; omega) (by simp) ?_
  intro v1 w1 o1 hb1
  rw [List.nil_append] at o1
  obtain ⟨a1, c1, rfl, hag1⟩ := o1.ag HAG.out.b
  rw [HLB.out] at hag1 ⊢
  have hbv : Below w.heap.size w w1 := (below_new w (.cells #[] 5)).trans hb1
  have HOW := Hid.mk (show 0 < n → ∃ g0 cur, a1 = some ⟨g0, 0, none⟩ ∧ w.heap.size ≤ g0 ∧ g0 < w1.heap.size ∧ w1.heap[g0]? = some (.cells cur 5) ∧ n ≤ cur.size ∧ n ≤ c1 ∧ c1 ≤ maxLen from fun h0 => by
    rcases o1.2 with ⟨hx, h00⟩ | ⟨g', cap', cur, hx, hg', hh, hnc, hcm, hcz, _⟩
    · have := HLB.out; omega
    · injection hx with e1 e2 e3
      have := HLB.out
      exact ⟨g', cur, e1, hg', lt_of_get hh, hh, by omega, by omega, by omega⟩)
  have HA1 := Hid.mk hag1
  have HB1 := Hid.mk hbv
  refine wl_pure 3 (.slice a1 n c1) rfl (by kernel_rfl) (by kernel_rfl) ?_
  refine hkk _ _ ?_
  clear hkk hag2 o1 hb1 hag1 hbv
  have HRF := Hid.mk (refer_any a1 n c1 b w1 HA1.out hn)
  go_frame
  go_wp2_with fail
  refine HRF.out.mono ?_
  rintro e w2 ⟨⟨y, rfl, hy⟩, hb2⟩
  have HL := Hid.mk hy.len
  have HY := Hid.mk hy
  have HB2 := Hid.mk (below_go HB1.out hb2)
  have HW2 := Hid.mk hb2
  clear hy hb2 HRF
  go_upto_region 3 with (first | refine wpList_store_row rfl 26 _ _ rfl _ y.cells.toArray rfl rfl 26 _ (heap_alloc_new _ _) (infoR' HL.out) (rz_size HL.out) (all_oneCell_toArray (RV.one _)) ?_)
  refine gen_w (p := fun v => Code.wp _ _ _ _ v) (q := fun v => RBx w2.heap.size v y ∧ Below w2.heap.size w2 v) ⟨⟨setRow_heap _ _ _ _ _ _ (heap_alloc_new _ _), HL.out⟩, Below.setRow (below_new w2 _) (Nat.le_refl _) _⟩ ?_
  rintro v3 ⟨B3, b3⟩
  have HX3 := Hid.mk B3
  have HW3 := Hid.mk (below_go HW2.out b3)
  have HB3 := Hid.mk (below_go HB2.out b3)
  have HY3 := Hid.mk (HY.out.go (Keep.own b3 (Nat.le_refl _)))
  clear B3 b3
  rename_i KK hkk
  refine wp_region_held_drew (S := fun v' => RBx w2.heap.size v' y ∧ Below v3.heap.size v3 v') (by kernel_rfl) ⟨⟨HX3.out.row, HX3.out.l⟩, (Below.refl _ _).drew⟩ (fun hS => ?_)
  refine rd_take 0 12 (.agg y.cells.toArray) rfl rfl (by kernel_rfl) (by kernel_rfl) (by kernel_rfl) (fun _ _ _ h => h) (by kernel_rfl) (fun v' hv => rd_loadRr rfl (by kernel_rfl) HL.out hv.1.all) hS ?_
  refine rd_take 1 13 (.slice a n c) rfl rfl (by kernel_rfl) (by kernel_rfl) (by kernel_rfl) (fun _ _ _ h => h) (by kernel_rfl) (fun v _ => by kernel_rfl) hS ?_
  refine wpAnyH_ready (rs := [2]) (by kernel_rfl) (by simp) ?_
  refine rd_call 2 14 rfl rfl (by kernel_rfl) 21 #[.slice a n c] (by kernel_rfl) (R := fun val w' => Below v3.drew.heap.size v3.drew w' ∧ ∃ z : RV, val = .agg z.cells.toArray ∧ RefAt (Own v3.drew.heap.size w') w' z (referP b)) ((rrefer_any a n c b v3.drew (HAG.out.at HB3.out.drew) hn).mono (fun e w' h => by
      obtain ⟨⟨z, e1, hz⟩, hb⟩ := h
      exact ⟨_, e1, hb, z, rfl, hz⟩)) (fun val w' h => ⟨hS.1.go h.1, below_go hS.2 h.1⟩) ?_ AllReadyH.nil
  rintro val u1 ⟨hb1, z, rfl, hz⟩
  have hS1 : RBx w2.heap.size u1 y ∧ Below v3.heap.size v3 u1 := ⟨hS.1.go hb1, below_go hS.2 hb1⟩
  refine wpAnyH_ready (rs := [3]) (by kernel_rfl) (by simp) ?_
  refine rd_call 3 15 rfl rfl (by kernel_rfl) 20 #[.agg y.cells.toArray, .agg z.cells.toArray] (by kernel_rfl) (R := fun val w' => val = .bool true ∧ Below u1.heap.size u1 w') ((sameRef_any _ _ y z (referP b) (referP b) u1 (HY3.out.go (Keep.below hS1.2)) hz).mono (fun e w' h => ⟨_, h.1, by rw [reqP_iff.2 rfl], h.2⟩)) (fun val w' h => ⟨hS1.1.go h.2, below_go hS1.2 h.2⟩) ?_ AllReadyH.nil
  rintro val u2 ⟨rfl, hb2⟩
  have hS2 : RBx w2.heap.size u2 y ∧ Below v3.heap.size v3 u2 := ⟨hS1.1.go hb2, below_go hS1.2 hb2⟩
  refine rd_take 4 5 (.bool true) rfl rfl (by kernel_rfl) (by kernel_rfl) (by kernel_rfl) (fun _ _ _ h => h) (by kernel_rfl) (fun v _ => by kernel_rfl) hS2 ?_
  refine wpAnyH_done (by kernel_rfl) ?_ _
  refine hkk _ _ ?_
  have HU2 := Hid.mk hS2
  clear hS2 hb2 hS1 hb1 hS hkk hz
  have HG0 := Hid.mk (show Gr w w1 w2 u2 y a1 n b from ⟨HU2.out.1, HY3.out.go (Keep.own HU2.out.2 (Nat.le_refl _)), below_go HB3.out HU2.out.2, fun g0 e h0 => by
    obtain ⟨g', cur, e', _, hlt, hh, hnc, _, _⟩ := HOW.out h0
    rw [e] at e'
    cases e'
    exact ⟨cur, Below.row (below_go HW3.out HU2.out.2) hh, hnc⟩⟩)
  go_frame
  go_wp2_with fail
  go_loopw [18] (fun s18 u => ∃ j : Nat, j ≤ n ∧ s18 = .int .i64 j ∧ Gr w w1 w2 u y a1 n b) (fun s18 _ => n - (intOf s18).toNat)
  case atStart => exact ⟨0, by omega, rfl, HG0.out⟩
  case round =>
    obtain ⟨j, hj, rfl, hgr⟩ := hrel
    have HGR := Hid.mk hgr
    clear hgr
    by_cases hlt : j < n
    · have hji : (j : Int) < n := by omega
      obtain ⟨g0, cur0, ha1, hg0, hg1, hh0, hnc0, hnc, hcm⟩ := HOW.out (by omega)
      subst ha1
      unfold maxLen at hcm
      obtain ⟨cur, hh, hnc'⟩ := HGR.out.2.2.2 g0 rfl (by omega)
      have hcell : wr.cell? ⟨g0, j, none⟩ = some (cur[j]'(by omega)) := by rw [cell_of_row _ _ _ _ _ _ hh, Array.getElem?_eq_getElem]
      have hfz : ∀ o, wr.frozen? ⟨g0, o, none⟩ = false := fun o => frozen_of_row _ _ _ _ _ hh
      have HPUT := Hid.mk (gr_put (j := j) HGR.out (by omega) hg0 hg1 HW2.out.size (.int .u8 99))
      generalize cur[j]'(by omega) = cv at hcell
      clear hh hnc' hh0 hnc0 hg0 hg1
      go_wp2_with fail
      exact ⟨⟨j + 1, by omega, by simp, HPUT.out⟩, by simp [intOf]; omega⟩
    · have hji : ¬ (j : Int) < n := by omega
      go_upto_region 9 with fail
      rename_i KK hkk
      refine wp_region_held_drew (S := fun v' => RBx w2.heap.size v' y ∧ Below wr.heap.size wr v') (by kernel_rfl) ⟨⟨HGR.out.1.row, HGR.out.1.l⟩, (Below.refl _ _).drew⟩ (fun hS => ?_)
      refine wpAnyH_ready (rs := [0]) (by kernel_rfl) (by simp) ?_
      refine rd_call 0 25 rfl rfl (by kernel_rfl) 11 #[] (by kernel_rfl) (R := fun val w' => val = .bool true ∧ Below wr.drew.heap.size wr.drew w') ((alive_any wr.drew).mono (fun e w' h => ⟨_, h.1, rfl, h.2⟩)) (fun val w' h => ⟨hS.1.go h.2, below_go hS.2 h.2⟩) ?_ AllReadyH.nil
      rintro val p0 ⟨rfl, hb0⟩
      have hSp0 : RBx w2.heap.size p0 y ∧ Below wr.heap.size wr p0 := ⟨hS.1.go hb0, below_go hS.2 hb0⟩
      refine rd_take 1 26 (.bool true) rfl rfl (by kernel_rfl) (by kernel_rfl) (by kernel_rfl) (fun _ _ _ h => h) (by kernel_rfl) (fun v _ => by kernel_rfl) hSp0 ?_
      refine rd_take 2 27 (.bool true) rfl rfl (by kernel_rfl) (by kernel_rfl) (by kernel_rfl) (fun _ _ _ h => h) (by kernel_rfl) (fun v _ => by kernel_rfl) hSp0 ?_
      refine rd_take 3 28 (.bool true) rfl rfl (by kernel_rfl) (by kernel_rfl) (by kernel_rfl) (fun _ _ _ h => h) (by kernel_rfl) (fun v _ => by kernel_rfl) hSp0 ?_
      refine rd_take 4 29 (.bool true) rfl rfl (by kernel_rfl) (by kernel_rfl) (by kernel_rfl) (fun _ _ _ h => h) (by kernel_rfl) (fun v _ => by kernel_rfl) hSp0 ?_
      refine rd_take 5 30 (.agg y.cells.toArray) rfl rfl (by kernel_rfl) (by kernel_rfl) (by kernel_rfl) (fun _ _ _ h => h) (by kernel_rfl) (fun v' hv => rd_loadRr rfl (by kernel_rfl) HL.out hv.1.all) hSp0 ?_
      refine rd_take 6 31 (.slice a n c) rfl rfl (by kernel_rfl) (by kernel_rfl) (by kernel_rfl) (fun _ _ _ h => h) (by kernel_rfl) (fun v _ => by kernel_rfl) hSp0 ?_
      refine wpAnyH_ready (rs := [7]) (by kernel_rfl) (by simp) ?_
      refine rd_call 7 32 rfl rfl (by kernel_rfl) 21 #[.slice a n c] (by kernel_rfl) (R := fun val w' => Below p0.heap.size p0 w' ∧ ∃ z : RV, val = .agg z.cells.toArray ∧ RefAt (Own p0.heap.size w') w' z (referP b)) ((rrefer_any a n c b p0 (HAG.out.at (below_go HGR.out.2.2.1 hSp0.2)) hn).mono (fun e w' h => by
          obtain ⟨⟨z, e1, hz⟩, hb⟩ := h
          exact ⟨_, e1, hb, z, rfl, hz⟩)) (fun val w' h => ⟨hSp0.1.go h.1, below_go hSp0.2 h.1⟩) ?_ AllReadyH.nil
      rintro val p1 ⟨hb1, z, rfl, hz⟩
      have hSp1 : RBx w2.heap.size p1 y ∧ Below wr.heap.size wr p1 := ⟨hSp0.1.go hb1, below_go hSp0.2 hb1⟩
      refine wpAnyH_ready (rs := [8]) (by kernel_rfl) (by simp) ?_
      refine rd_call 8 33 rfl rfl (by kernel_rfl) 20 #[.agg y.cells.toArray, .agg z.cells.toArray] (by kernel_rfl) (R := fun val w' => val = .bool true ∧ Below p1.heap.size p1 w') ((sameRef_any _ _ y z (referP b) (referP b) p1 (HGR.out.2.1.go (Keep.below hSp1.2)) hz).mono (fun e w' h => ⟨_, h.1, by rw [reqP_iff.2 rfl], h.2⟩)) (fun val w' h => ⟨hSp1.1.go h.2, below_go hSp1.2 h.2⟩) ?_ AllReadyH.nil
      rintro val p2 ⟨rfl, hb2⟩
      have hSp2 : RBx w2.heap.size p2 y ∧ Below wr.heap.size wr p2 := ⟨hSp1.1.go hb2, below_go hSp1.2 hb2⟩
      refine rd_take 9 34 (.bool true) rfl rfl (by kernel_rfl) (by kernel_rfl) (by kernel_rfl) (fun _ _ _ h => h) (by kernel_rfl) (fun v _ => by kernel_rfl) hSp2 ?_
      refine rd_take 10 35 (.bool true) rfl rfl (by kernel_rfl) (by kernel_rfl) (by kernel_rfl) (fun _ _ _ h => h) (by kernel_rfl) (fun v _ => by kernel_rfl) hSp2 ?_
      refine wpAnyH_ready (rs := [11]) (by kernel_rfl) (by simp) ?_
      refine rd_call 11 36 rfl rfl (by kernel_rfl) 22 #[] (by kernel_rfl) (R := fun val w' => val = .agg (B8 (dref [128])) ∧ Below p2.heap.size p2 w') ((emptyRoot_any p2).mono (fun e w' h => ⟨_, h.1, rfl, h.2⟩)) (fun val w' h => ⟨hSp2.1.go h.2, below_go hSp2.2 h.2⟩) ?_ AllReadyH.nil
      rintro val p3 ⟨rfl, hb3⟩
      have hSp3 : RBx w2.heap.size p3 y ∧ Below wr.heap.size wr p3 := ⟨hSp2.1.go hb3, below_go hSp2.2 hb3⟩
      refine wpAnyH_ready (rs := [12]) (by kernel_rfl) (by simp) ?_
      refine rd_call 12 37 rfl rfl (by kernel_rfl) 23 #[] (by kernel_rfl) (R := fun val w' => val = .agg (B8 (dref [128])) ∧ Below p3.heap.size p3 w') ((remptyRoot_any p3).mono (fun e w' h => ⟨_, h.1, rfl, h.2⟩)) (fun val w' h => ⟨hSp3.1.go h.2, below_go hSp3.2 h.2⟩) ?_ AllReadyH.nil
      rintro val p4 ⟨rfl, hb4⟩
      have hSp4 : RBx w2.heap.size p4 y ∧ Below wr.heap.size wr p4 := ⟨hSp3.1.go hb4, below_go hSp3.2 hb4⟩
      refine rd_take 13 38 (.bool true) rfl rfl (by kernel_rfl) (by kernel_rfl) (by kernel_rfl) (fun _ _ _ h => h) (by kernel_rfl) (fun v _ => rd_eqDig (ds := dref [128]) rfl (by kernel_rfl) (by kernel_rfl) (dref_len [128])) hSp4 ?_
      refine rd_take 14 39 (.bool true) rfl rfl (by kernel_rfl) (by kernel_rfl) (by kernel_rfl) (fun _ _ _ h => h) (by kernel_rfl) (fun v _ => by kernel_rfl) hSp4 ?_
      refine rd_take 15 40 (.bool true) rfl rfl (by kernel_rfl) (by kernel_rfl) (by kernel_rfl) (fun _ _ _ h => h) (by kernel_rfl) (fun v _ => by kernel_rfl) hSp4 ?_
      refine wpAnyH_ready (rs := [16]) (by kernel_rfl) (by simp) ?_
      refine rd_call 16 41 rfl rfl (by kernel_rfl) 24 #[] (by kernel_rfl) (R := fun val w' => val = .agg (B8 (dref [])) ∧ Below p4.heap.size p4 w') ((emptyCode_any p4).mono (fun e w' h => ⟨_, h.1, rfl, h.2⟩)) (fun val w' h => ⟨hSp4.1.go h.2, below_go hSp4.2 h.2⟩) ?_ AllReadyH.nil
      rintro val p5 ⟨rfl, hb5⟩
      have hSp5 : RBx w2.heap.size p5 y ∧ Below wr.heap.size wr p5 := ⟨hSp4.1.go hb5, below_go hSp4.2 hb5⟩
      refine wpAnyH_ready (rs := [17]) (by kernel_rfl) (by simp) ?_
      refine rd_call 17 42 rfl rfl (by kernel_rfl) 25 #[] (by kernel_rfl) (R := fun val w' => val = .agg (B8 (dref [])) ∧ Below p5.heap.size p5 w') ((remptyCode_any p5).mono (fun e w' h => ⟨_, h.1, rfl, h.2⟩)) (fun val w' h => ⟨hSp5.1.go h.2, below_go hSp5.2 h.2⟩) ?_ AllReadyH.nil
      rintro val p6 ⟨rfl, hb6⟩
      have hSp6 : RBx w2.heap.size p6 y ∧ Below wr.heap.size wr p6 := ⟨hSp5.1.go hb6, below_go hSp5.2 hb6⟩
      refine rd_take 18 43 (.bool true) rfl rfl (by kernel_rfl) (by kernel_rfl) (by kernel_rfl) (fun _ _ _ h => h) (by kernel_rfl) (fun v _ => rd_eqDig (ds := dref []) rfl (by kernel_rfl) (by kernel_rfl) (dref_len [])) hSp6 ?_
      refine rd_take 19 44 (.bool true) rfl rfl (by kernel_rfl) (by kernel_rfl) (by kernel_rfl) (fun _ _ _ h => h) (by kernel_rfl) (fun v _ => by kernel_rfl) hSp6 ?_
      refine rd_take 20 2 (.bool true) rfl rfl (by kernel_rfl) (by kernel_rfl) (by kernel_rfl) (fun _ _ _ h => h) (by kernel_rfl) (fun v _ => by kernel_rfl) hSp6 ?_
      refine wpAnyH_done (by kernel_rfl) ?_ _
      refine hkk _ _ ?_
      exact end_ret 2 Try.results6 (by kernel_rfl) (by kernel_rfl) (below_go HGR.out.2.2.1 hSp6.2)
end Go.Proofs.Ytamibjgahcpkcaa
/- That NodeDecodes answers true. -/
namespace Go.Proofs.Ytamibjgahcpkcaa
open Go.RowKit
set_option linter.unusedVariables false
set_option maxRecDepth 100000
def pnOf (o : Option PN) : PN := o.getD n0
def erOf (o : Option PN) : Int := match o with
  | none => 50
  | some _ => 0
theorem nodeAt_nz (K : Nat → Prop) (w : World) : NodeAt K w nz n0 := ⟨rfl, agk_nil _ _, agk_nil _ _, refAt_zero _ _, ⟨rfl, Nat.zero_le _, Nat.zero_le _, Nat.zero_le _, fun _ => ⟨rfl, rfl⟩⟩, kids_nil _ _ _⟩
theorem dpost_parts {w : World} {o : Option PN} {e : Ending} {w' : World} (h : DPost w o e w') : Below w.heap.size w w' ∧ ∃ y : NV, e = .returned (.tuple #[.agg y.cells.toArray, .int .i64 (erOf o)]) ∧ NodeAt (Own w.heap.size w') w' y (pnOf o) := by
  obtain ⟨hb, hm⟩ := h
  refine ⟨hb, ?_⟩
  cases o with
  | none => exact ⟨nz, hm, nodeAt_nz _ _⟩
  | some n => obtain ⟨y, e1, hy⟩ := hm; exact ⟨y, e1, hy⟩
theorem ddpost_parts {w : World} {o : Option PN} {e : Ending} {w' : World} (h : DDPost w o e w') : Below w.heap.size w w' ∧ ∃ y : NV, e = .returned (.tuple #[.agg y.cells.toArray, .int .i64 (erOf o)]) ∧ NodeAt (fun g => w.heap.size ≤ g) w' y (pnOf o) := by
  obtain ⟨hb, hm⟩ := h
  refine ⟨hb, ?_⟩
  cases o with
  | none => exact ⟨nz, hm, nodeAt_nz _ _⟩
  | some n => obtain ⟨y, e1, hy⟩ := hm; exact ⟨y, e1, hy⟩
/-- What a node's blocks are below, as they lie there. -/
theorem NodeAt.below_hi {K : Nat → Prop} {w : World} {x : NV} {n : PN} (h : NodeAt K w x n) : NodeAt (fun g => K g ∧ g < w.heap.size) w x n := h.go fun g hK hg => ⟨rfl, hK, hg⟩
set_option maxHeartbeats 8000000 in
theorem decodes_law (a : Option Addr) (n c : Nat) (b : List Int) (hn : n ≤ 140737488351232) (w : World) (hag : Ag w a n c b) :
    Calls Try.prog 5 #[.slice a n c] w fun e w' => e = .returned (.bool true) ∧ Below w.heap.size w w' := by
  have HAG := Hid.mk hag
  have HLB := Hid.mk hag.l
  obtain ⟨o, ho⟩ : ∃ o, ND b = o := ⟨_, rfl⟩
  have HO := Hid.mk ho
  clear hag ho
  go_enter Try.func5, Try.ntmps5
  go_upto_region 1 with fail
  rename_i KK hkk
  refine wp_region_lit ?_
  refine wl_run 10 (.slice (some ⟨w.heap.size, 0, none⟩) 0 0) rfl (by kernel_rfl) (rd_none rfl) ?_
  refine wl_pure 11 (.slice a n c) rfl (by kernel_rfl) (by kernel_rfl) ?_
  have hag2 := HAG.out.at (below_new w (.cells #[] 5))
  refine app_any rfl (.tmp 10) (.tmp 11) rfl w.heap.size _ [] (by kernel_rfl) (OwnB.new w) a n c b (by kernel_rfl) hag2.i hag2.nil hag2.l (by simp; omega) (by simp) ?_
  intro v1 w1 o1 hb1
  rw [List.nil_append] at o1
  obtain ⟨a1, c1, rfl, hag1⟩ := o1.ag HAG.out.b
  rw [HLB.out] at hag1 ⊢
  have hbv : Below w.heap.size w w1 := (below_new w (.cells #[] 5)).trans hb1
  have HA1 := Hid.mk hag1
  have HB1 := Hid.mk hbv
  refine wl_pure 3 (.slice a1 n c1) rfl (by kernel_rfl) (by kernel_rfl) ?_
  refine hkk _ _ ?_
  clear hkk hag2 o1 hb1 hag1 hbv
  have hD := ndecode_any b a1 n c1 w1 HA1.out hn
  rw [HO.out] at hD
  have HD := Hid.mk hD
  clear hD
  go_frame
  go_wp2_with fail
  refine HD.out.mono ?_
  intro e w2 hp
  obtain ⟨hb2, y, rfl, hy⟩ := dpost_parts hp
  have HL := Hid.mk hy.c.len
  have HY := Hid.mk hy.below_hi
  have HB2 := Hid.mk hb2
  obtain ⟨er, her⟩ : ∃ er, erOf o = er := ⟨_, rfl⟩
  rw [her]
  have HER := Hid.mk her
  clear hp hb2 hy her HD
  go_upto_region 3 with (first | refine wpList_store_row rfl 29 _ _ rfl _ y.cells.toArray rfl rfl 29 _ (heap_alloc_new _ _) (infoN' HL.out) (nz_size HL.out) (all_oneCell_toArray (NV.one _)) ?_)
  refine gen_w (p := fun v => Code.wp _ _ _ _ v) (q := fun v => NBx w2.heap.size v y ∧ Below w2.heap.size w2 v) ⟨⟨setRow_heap _ _ _ _ _ _ (heap_alloc_new _ _), HL.out⟩, Below.setRow (below_new w2 _) (Nat.le_refl _) _⟩ ?_
  rintro v3 ⟨B3, b3⟩
  have HX3 := Hid.mk B3
  have HB3 := Hid.mk b3
  have HW3 := Hid.mk (below_go (below_go HB1.out HB2.out) b3)
  have hD := rdecode_any b a n c v3 (HAG.out.at HW3.out) hn
  rw [HO.out] at hD
  have HD := Hid.mk hD
  clear hD B3 b3
  go_wp2_with fail
  refine HD.out.mono ?_
  intro e w4 hp
  obtain ⟨hb4, z, rfl, hz⟩ := ddpost_parts hp
  rw [HER.out]
  have HLZ := Hid.mk hz.c.len
  have HZ := Hid.mk hz
  have HX4 := Hid.mk (HX3.out.go hb4)
  have HS4 := Hid.mk (show w2.heap.size ≤ v3.heap.size ∧ v3.heap.size ≤ w4.heap.size from ⟨HB3.out.size, hb4.size⟩)
  have HB4 := Hid.mk (below_go HB3.out hb4)
  clear hp hb4 hz HD HX3
  go_upto_region 4 with (first | refine wpList_store_row rfl 29 _ _ rfl _ z.cells.toArray rfl rfl 29 _ (heap_alloc_new _ _) (infoN' HLZ.out) (nz_size HLZ.out) (all_oneCell_toArray (NV.one _)) ?_)
  refine gen_w (p := fun v => Code.wp _ _ _ _ v) (q := fun v => NBx w4.heap.size v z ∧ Below w4.heap.size w4 v) ⟨⟨setRow_heap _ _ _ _ _ _ (heap_alloc_new _ _), HLZ.out⟩, Below.setRow (below_new w4 _) (Nat.le_refl _) _⟩ ?_
  rintro v5 ⟨B5, b5⟩
  have HX5 := Hid.mk (HX4.out.go b5)
  have HZ5 := Hid.mk B5
  have HB5 := Hid.mk (below_go HB4.out b5)
  have HZN5 := Hid.mk (HZ.out.go (Keep.below b5))
  have hee : (er != er) = false := by simp
  clear B5 b5 HX4 HB4 HZ
  go_wp2_with fail
  refine (alive_any v5).mono ?_
  rintro e w6 ⟨rfl, hb6⟩
  have HX6 := Hid.mk (HX5.out.go hb6)
  have HZ6 := Hid.mk (HZ5.out.go hb6)
  have HB6 := Hid.mk (below_go HB5.out hb6)
  have HZN6 := Hid.mk (HZN5.out.go (Keep.below hb6))
  have HSA := Hid.mk (same_any _ _ y z (pnOf o) (pnOf o) w6 (HY.out.go (Keep.below HB6.out)) HZN6.out)
  rw [neqP_iff.2 rfl] at HSA
  clear hb6 HX5 HZ5 HB5 HZN5
  go_wp2_with (first | refine wpl_loadN rfl _ rfl w2.heap.size rfl y HX6.out ?_ | refine wpl_loadN rfl _ rfl w4.heap.size rfl z HZ6.out ?_)
  refine HSA.out.mono ?_
  rintro e w7 ⟨rfl, hb7⟩
  have HX7 := Hid.mk (HX6.out.go hb7)
  have HZ7 := Hid.mk (HZ6.out.go hb7)
  have HB7 := Hid.mk (below_go HB6.out hb7)
  have HZN7 := Hid.mk (HZN6.out.go (Keep.below hb7))
  have HW7 := Hid.mk (below_go HB2.out HB7.out)
  have HV7 := Hid.mk (below_go HB1.out HW7.out)
  have k1 := conv_any (HA1.out.at HW7.out).i
  have k2 := conv_any (HAG.out.at HV7.out).i
  obtain ⟨s1, hsn⟩ : ∃ s1, strOfNums b = s1 := ⟨_, rfl⟩
  rw [hsn] at k1 k2
  have hss : (!s1.toList == s1.toList) = false := by simp
  have HSP := Hid.mk (spoilt_any w1.heap.size w2.heap.size y (pnOf o) w7 (HY.out.go (fun g hK hg => by
    have e := HB7.out.block g hg
    exact ⟨e, ⟨hK.1.1, fun ofs => (World.frozen?_of_block (w := w2) e).trans (hK.1.2 ofs)⟩, hK.2⟩)) HB7.out.size)
  clear hb7 HX6 HZ6 HB6 HZN6 HSA
  go_wp2_with (first | refine wpl_loadN rfl _ rfl w2.heap.size rfl y HX7.out ?_)
  refine HSP.out.mono ?_
  rintro e w8 ⟨rfl, W, hbW, hsp⟩
  have hk8 : ∀ k, k < w7.heap.size → ¬ (w1.heap.size ≤ k ∧ k < w2.heap.size) → w8.heap[k]? = w7.heap[k]? := fun k hk hno => (hsp.out k hno).trans (hbW.block k hk)
  have hs8 : w7.heap.size ≤ w8.heap.size := by rw [hsp.size]; exact hbW.size
  obtain ⟨z3, z4⟩ := HS4.out
  have HV8 := Hid.mk (show Below w.heap.size w w8 from ⟨hsp.os.trans (hbW.os.trans HV7.out.os), hsp.tape.trans (hbW.tape.trans HV7.out.tape), hsp.output.trans (hbW.output.trans HV7.out.output), Nat.le_trans HV7.out.size hs8, fun k hk => (hk8 k (Nat.lt_of_lt_of_le hk HV7.out.size) (by have := HB1.out.size; omega)).trans (HV7.out.block k hk)⟩)
  have HA8 := Hid.mk (show Ag w8 a1 n c1 b from ag_keep HA1.out (fun g off e h0 hl => (hk8 g (Nat.lt_of_lt_of_le hl HW7.out.size) (by omega)).trans (HW7.out.block g hl)))
  have HZ8 := Hid.mk (show NBx w4.heap.size w8 z from ⟨(hk8 _ (lt_of_get HZ7.out.row) (by omega)).trans HZ7.out.row, HLZ.out⟩)
  have HZN8 := Hid.mk (show NodeAt (fun _ => True) w8 z (pnOf o) from HZN7.out.go fun g hK hg => ⟨hk8 g hg (by have : v3.heap.size ≤ g := hK; omega), trivial⟩)
  have hD := ndecode_any b a1 n c1 w8 HA8.out hn
  rw [HO.out] at hD
  have HD := Hid.mk hD
  clear hD hk8 hs8 hbW hsp z3 z4 HSP HX7 HZ7 HZN7 k1 k2 hss hee
  go_wp2_with fail
  refine HD.out.mono ?_
  intro e w9 hp
  obtain ⟨hb9, x, rfl, hx⟩ := dpost_parts hp
  rw [HER.out]
  have HLX := Hid.mk hx.c.len
  have HXN := Hid.mk hx
  have HZ9 := Hid.mk (HZ8.out.go hb9)
  have HZN9 := Hid.mk (HZN8.out.go (Keep.below hb9))
  have HB9 := Hid.mk hb9
  clear hp hb9 hx HD HZ8 HZN8
  go_upto_region 8 with (first | refine wpList_store_row rfl 29 _ _ rfl _ x.cells.toArray rfl rfl 29 _ (heap_alloc_new _ _) (infoN' HLX.out) (nz_size HLX.out) (all_oneCell_toArray (NV.one _)) ?_)
  refine gen_w (p := fun v => Code.wp _ _ _ _ v) (q := fun v => NBx w9.heap.size v x ∧ Below w9.heap.size w9 v) ⟨⟨setRow_heap _ _ _ _ _ _ (heap_alloc_new _ _), HLX.out⟩, Below.setRow (below_new w9 _) (Nat.le_refl _) _⟩ ?_
  rintro u1 ⟨B10, b10⟩
  have HX10 := Hid.mk B10
  have HZ10 := Hid.mk (HZ9.out.go b10)
  have hb89 := below_go HB9.out b10
  have k1 := conv_any (HA8.out.at hb89).i
  have k2 := conv_any (HAG.out.at (below_go HV8.out hb89)).i
  rw [hsn] at k1 k2
  have HSA := Hid.mk (same_any _ _ x z (pnOf o) (pnOf o) u1 (HXN.out.go (Keep.below b10)) (HZN9.out.go (Keep.below b10)))
  rw [neqP_iff.2 rfl] at HSA
  have HE10 := Hid.mk (below_go HV8.out hb89)
  have hss : (s1.toList == s1.toList) = true := by simp
  clear B10 b10 hb89 HZ9 HZN9 hsn
  go_wp2_with (first | refine wpl_loadN rfl _ rfl w9.heap.size rfl x HX10.out ?_ | refine wpl_loadN rfl _ rfl w4.heap.size rfl z HZ10.out ?_)
  refine HSA.out.mono ?_
  rintro e u2 ⟨rfl, hb11⟩
  have HE11 := Hid.mk (below_go HE10.out hb11)
  clear hb11
  go_wp2_with fail
  go_ret
  exact ⟨rfl, HE11.out⟩
end Go.Proofs.Ytamibjgahcpkcaa
/- How a slice of bytes that is handed in reads as data: nil, or a row of bytes that takes no more than the form's own reach. -/
namespace Go.Proofs.Ytamibjgahcpkcaa
open Go.ChangeShapes Go.WideShapes Go.ChangeAt Go.RowKit
open Go.ChangeMaps (open_string shut_string)
set_option linter.unusedVariables false
set_option maxRecDepth 100000
theorem own : ownKnob Try.prog.godebug = none := by kernel_rfl
theorem laidOut : laidOutB Try.prog = true := by kernel_rfl
theorem cells5 : Try.prog.cellsOf 5 = 1 := by kernel_rfl
theorem bytes5 : Try.prog.bytesOf 5 = 1 := by kernel_rfl
/-- A slice of bytes that came in, opened: its bytes; it takes no more than the reach. -/
theorem open_bytes {H : Type} {enc : TypeId × Value → H} {w : World} {base b0 : Nat} {r : Reach} {held : Bool} {v : Value} {d : DataW H} {p : List MemPlace}
    (hv : Value.okWide Try.prog w r b0 22 v) (h : DataW.Trod enc Try.prog w base (fun _ => true) held 22 v d p)
    (hsz : ∀ elems spare, d = .slice elems spare → (elems.length + spare.length) * Try.prog.bytesOf 5 ≤ reachBytes) :
    ∃ a len cap bs, v = .slice a len cap ∧ In0 w a len cap bs ∧ (a = none → len = 0 ∧ cap = 0) ∧ bs.length = len ∧ (∀ x ∈ bs, 0 ≤ x ∧ x < 256) ∧ len ≤ 140737488351232 := by
  obtain ⟨a, len, cap, rfl⟩ := okWide_slice Try.underlying22 hv
  obtain ⟨fuel, hf⟩ := h
  rcases open_ints Try.underlying22 Try.underlying5 cells5 hf with ⟨hcs, _⟩ | ⟨x, l, c, zs, hcs, _, hl, hm, hz, hx, hcell, hwz⟩
  · simp [Value.cells] at hcs
    obtain ⟨rfl, rfl, rfl⟩ := hcs
    exact ⟨none, 0, 0, [], rfl, .inl ⟨rfl, rfl⟩, fun _ => ⟨rfl, rfl⟩, rfl, (fun x hx => by cases hx), by omega⟩
  · simp [Value.cells] at hcs
    obtain ⟨rfl, rfl, rfl⟩ := hcs
    have hz2 : zs.length = cap := by simpa using hz
    have hsz2 := hsz _ _ (Prod.mk.inj hx).1
    rw [bytes5] at hsz2
    simp only [lits, List.length_map, List.length_take, List.length_drop, reachBytes] at hsz2
    have hlen : (zs.take len).length = len := by rw [List.length_take]; omega
    have hbd : ∀ n ∈ zs.take len, 0 ≤ n ∧ n < 256 := fun n hn => by
      have := bounds_u8 (hwz n (List.mem_of_mem_take hn))
      omega
    refine ⟨some x, len, cap, zs.take len, rfl, ?_, (fun h => by cases h), hlen, hbd, by omega⟩
    by_cases h0 : len = 0
    · subst h0
      exact .inl ⟨rfl, by simp⟩
    · obtain ⟨b, off, spot⟩ := x
      have hc := hcell 0 (by omega)
      have hspot : spot = none := by simpa [Addr.add] using World.cell?_spot hc
      subst hspot
      refine .inr ⟨b, off, rfl, hlen, by omega, hl, hm, fun j hj => ?_⟩
      rw [hlen] at hj
      have := hcell j (by omega)
      rw [addr_add] at this
      rw [this, List.getD, List.getD, List.getElem?_take_of_lt hj]
theorem open_ag {H : Type} {enc : TypeId × Value → H} {w : World} {base b0 : Nat} {r : Reach} {held : Bool} {v : Value} {d : DataW H} {p : List MemPlace}
    (hv : Value.okWide Try.prog w r b0 22 v) (h : DataW.Trod enc Try.prog w base (fun _ => true) held 22 v d p)
    (hsz : ∀ elems spare, d = .slice elems spare → (elems.length + spare.length) * Try.prog.bytesOf 5 ≤ reachBytes) :
    ∃ a len cap bs, v = .slice a len cap ∧ Ag w a len cap bs ∧ len ≤ 140737488351232 := by
  obtain ⟨a, len, cap, bs, h1, h2, h3, h4, h5, h6⟩ := open_bytes hv h hsz
  exact ⟨a, len, cap, bs, h1, ⟨h2, h3, h4, h5⟩, h6⟩
end Go.Proofs.Ytamibjgahcpkcaa

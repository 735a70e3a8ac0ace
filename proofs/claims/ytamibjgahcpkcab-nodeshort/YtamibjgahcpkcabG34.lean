/- That NodeShort answers true. -/
import Derived.Test.YtamibjgahcpkcabG31
import Derived.Test.YtamibjgahcpkcabG32
import Derived.Test.YtamibjgahcpkcabG33
import Derived.Test.YtamibjgahcpkcabG01
import Derived.ProofKit
import Derived.OpenShut
import Derived.ShutString
import Derived.ChangeOld
import Derived.SizedLaws
namespace Go.Proofs.Ytamibjgahcpkcab
open Go.RowKit
set_option linter.unusedVariables false
set_option maxRecDepth 100000
section
variable {a : Act} {w : World}
theorem rd_lss {x y : Operand} {p q : Int} {r : TypeId} {b : Bool} {o : Oper} (ho : o.op = .binOp .lss 3 x y r) (hx : a.eval x = .int .i64 p) (hy : a.eval y = .int .i64 q) (hb : decide (p < q) = b) : (execOp a.eval o).run Try.prog w = .ok (.value (.bool b)) w := by
  subst hb
  unfold execOp
  rw [ho]
  simp only [hx, hy]
  go_simp
theorem rd_loadi {x : Operand} {p : Addr} {v : Value} {o : Oper} (ho : o.op = .load 3 x) (hx : a.eval x = .pointer (some p)) (hc : w.cell? p = some v) : (execOp a.eval o).run Try.prog w = .ok (.value v) w := by
  unfold execOp
  rw [ho]
  simp only [hx]
  go_simp
end
set_option maxHeartbeats 8000000 in
theorem short_law (K : Nat → Prop) (x : NV) (n : PN) (w : World) (h : NodeAt K w x n) :
    Calls Try.prog 4 #[.agg x.cells.toArray] w fun e w' => e = .returned (.bool true) ∧ Below w.heap.size w w' := by
  have B := nbx_new w x h.c.len
  have HB := Hid.mk (below_new w (.cells x.cells.toArray 29))
  have HX := Hid.mk h
  obtain ⟨q, hq⟩ : ∃ q, NR n = q := ⟨_, rfl⟩
  have HQ := Hid.mk hq
  clear h hq
  go_enter Try.func4, Try.ntmps4
  go_upto_region 1 with fail
  refine gen_w (p := fun v => Code.wp _ _ _ _ v) (q := fun v => NBx w.heap.size v x ∧ Below w.heap.size w v) ⟨B, HB.out⟩ ?_
  clear B HB
  rintro v ⟨X0, hb⟩
  have HX0 := Hid.mk X0
  have HB := Hid.mk hb
  have HE := Hid.mk (nencode_any K x n v (HX.out.go (Keep.below hb)))
  clear X0 hb
  go_wp2_with (first | refine wpl_loadN rfl _ rfl w.heap.size rfl x HX0.out ?_)
  refine HE.out.mono ?_
  rintro e w1 ⟨⟨a1, m1, c1, rfl, hag1, -⟩, hb1⟩
  have X1 := HX0.out.go hb1
  have HX1 := Hid.mk X1
  have HB1 := Hid.mk (below_go HB.out hb1)
  have HA1 := Hid.mk hag1
  have c0 := X1.c0
  have c37 := X1.c37
  clear hag1 hb1 HX0 HB HE X1
  cases q with
  | false =>
    have hep : NEP n = ([], 50) := by unfold NEP; rw [HQ.out]; rfl
    rw [hep]
    simp only
    rw [show ((50 : Nat) : Int) = 50 from rfl]
    clear hep
    go_wp2_with fail
    refine (alive_any w1).mono ?_
    rintro e w3 ⟨rfl, hb3⟩
    have HB3 := Hid.mk (below_go HB1.out hb3)
    clear hb3
    go_wp2_with fail
    go_ret
    exact ⟨rfl, HB3.out⟩
  | true =>
    have hep : NEP n = (NE n, 0) := by unfold NEP; rw [HQ.out]; rfl
    rw [hep] at HA1 ⊢
    have hlen : (NE n).length = m1 := HA1.out.l
    have HLEN := Hid.mk hlen
    have hm65 : m1 ≤ 65540 := by rw [← hlen]; exact (node_back HX.out.okN HQ.out).2.2
    simp only
    rw [show ((0 : Nat) : Int) = 0 from rfl]
    have hks := (NR_small HQ.out).1
    have hkn : x.kn ≤ 100 := by rw [HX.out.m.1]; exact hks
    obtain ⟨g, cap, ys, w2, hrun, hra, hrg, hb2, hcap, hcm⟩ := all_refs HX.out HB1.out hks 27
    unfold maxLen at hcm
    have HRUN := Hid.mk hrun
    have HRA := Hid.mk hra
    have HRG := Hid.mk hrg
    have HB2 := Hid.mk (below_go HB1.out hb2)
    have HX2 := Hid.mk (HX1.out.go hb2)
    have h18 : x.k = 3 → ¬ (m1 : Int) < 18 := fun h3 => by
      have h1 := (branch_len HX.out.okN HQ.out (by rw [← HX.out.k]; exact h3)).1
      omega
    have hysl : ys.length = x.kn + 1 := by rw [← hra.1, HX.out.m.1]; simp
    have HYSL := Hid.mk hysl
    clear hep hrun hra hrg hb2 hlen hks hysl HA1
    have HC37 := Hid.mk (show (w1.alloc (.cells x.c.cells.toArray 26)).cell? ⟨w.heap.size, 37, none⟩ = some (.slice x.ka x.kn x.kc) from (HX1.out.go (below_new w1 _)).c37)
    have HLL : Hid (x.k = 3 ∧ ¬ (m1 : Int) < 18 ∨ ¬ x.k = 3) := Hid.mk (by
      by_cases h3 : x.k = 3
      · exact .inl ⟨h3, h18 h3⟩
      · exact .inr h3)
    clear h18
    by_cases hk3 : x.k = 3
    · have hn18 : ¬ (m1 : Int) < 18 := (HLL.out.resolve_right (fun h => h hk3)).2
      have HKK := Hid.mk hk3
      go_upto_region 6 with fail
      rename_i KK hkk
      refine wp_region_lit ?_
      refine wl_pure 25 (.pointer (some ⟨w.heap.size, 3, none⟩)) rfl (by kernel_rfl) (by kernel_rfl) ?_
      refine wl_pure 26 (.agg x.c.cells.toArray) rfl (by kernel_rfl) (rd_loadRr rfl (by kernel_rfl) HX.out.c.len HX1.out.child) ?_
      refine wl_run 27 (.slice (some ⟨w1.heap.size, 0, none⟩) 1 1) rfl (by kernel_rfl) (rd_buildR rfl x.c HX.out.c.len (by kernel_rfl)) ?_
      refine wl_pure 28 (.pointer (some ⟨w.heap.size, 37, none⟩)) rfl (by kernel_rfl) (by kernel_rfl) ?_
      refine wl_pure 29 (.slice x.ka x.kn x.kc) rfl (by kernel_rfl) (rd_loadK rfl (by kernel_rfl) HC37.out) ?_
      refine wl_run 30 (.slice (some ⟨g, 0, none⟩) (x.kn + 1) cap) rfl (by kernel_rfl) (rd_app rfl _ _ (by kernel_rfl) (by kernel_rfl) HRUN.out) ?_
      refine wl_pure 31 (.int .i64 ((x.kn + 1 : Nat) : Int)) rfl (by kernel_rfl) (by kernel_rfl) ?_
      refine wl_pure 32 (.int .i64 0) rfl (by kernel_rfl) (by kernel_rfl) ?_
      refine hkk _ _ ?_
      clear hkk c0 c37
      obtain ⟨tot, htot⟩ : ∃ tot, x.kn + 1 = tot := ⟨_, rfl⟩
      rw [htot] at HYSL hcap ⊢
      clear HRUN HC37
      go_frame
      go_wp2_with fail
      go_loopw [32] (fun s32 u => ∃ j : Nat, j ≤ tot ∧ s32 = .int .i64 j ∧ NBx w.heap.size u x ∧ Below w2.heap.size w2 u) (fun s32 _ => tot - (intOf s32).toNat)
      case atStart => exact ⟨0, by omega, rfl, HX2.out, Below.refl _ _⟩
      case round =>
        obtain ⟨j, hj, rfl, XR, hbr⟩ := hrel
        have HXR := Hid.mk XR
        have HBR := Hid.mk hbr
        clear XR hbr
        by_cases hlt : j < tot
        · have hji : (j : Int) < tot := by omega
          obtain ⟨y, hy⟩ : ∃ y, ys[j]? = some y := ⟨_, List.getElem?_eq_getElem (by rw [HYSL.out]; exact hlt)⟩
          obtain ⟨r, hr⟩ : ∃ r, (n.c :: n.ks)[j]? = some r := ⟨_, List.getElem?_eq_getElem (by rw [HRA.out.1, HYSL.out]; exact hlt)⟩
          have HYR := Hid.mk (HRA.out.2.2 j y r hy hr)
          have HL := Hid.mk HYR.out.len
          have HRGJ := Hid.mk (range_keep (HRG.out j y hy) (fun hl => HBR.out.block g hl))
          have HMEM := Hid.mk (List.mem_of_getElem? hr)
          have HBW := Hid.mk HB2.out
          clear hy hr
          have hz0 : ∀ w0 : World, w0.rangeAt g (0 + j * 34) y.cells → w0.rangeAt g (0 + j * 34) y.cells := fun _ h => h
          clear hz0
          go_upto_region 9 with (first | refine wpl_loadR rfl _ rfl g (j * 34) rfl y HL.out HRGJ.out ?_ | refine wpList_store_row rfl 26 _ _ rfl _ y.cells.toArray rfl rfl 26 _ (heap_alloc_new _ _) (infoR' HL.out) (rz_size HL.out) (all_oneCell_toArray (RV.one _)) ?_)
          refine gen_w (p := fun v => Code.wp _ _ _ _ v) (q := fun u => RBx wr.heap.size u y ∧ Below wr.heap.size wr u) ⟨⟨setRow_heap _ _ _ _ _ _ (heap_alloc_new _ _), HL.out⟩, Below.setRow (below_new wr _) (Nat.le_refl _) _⟩ ?_
          rintro v3 ⟨B3, b3⟩
          have d0 := B3.c0
          have d33 := B3.c33
          have HB3 := Hid.mk B3
          have HX3 := Hid.mk (HXR.out.go b3)
          have HBL3 := Hid.mk (below_go HBR.out b3)
          clear B3 b3
          by_cases hk1 : y.k = 1
          · obtain ⟨m, hm, hre, h32, hib, hno⟩ := inline_in HX.out.okN HQ.out HMEM.out (by rw [← HYR.out.1]; exact hk1)
            have HRE := Hid.mk hre
            have HNO := Hid.mk hno
            have HN32 := Hid.mk (show y.n < 32 from by rw [← HYR.out.2.2.2.2.l]; exact h32)
            have HDE := Hid.mk (ndecode_any r.i y.a y.n y.c v3 (HYR.out.2.2.2.2.1.at (below_go HBW.out HBL3.out)) HYR.out.2.2.2.2.2.1)
            rw [hm] at HDE
            have HK1 := Hid.mk hk1
            clear hm hre h32 hib hno
            go_wp2_with fail
            refine HDE.out.mono ?_
            rintro e w4 ⟨hb4, z', rfl, hz'⟩
            have HZL := Hid.mk hz'.c.len
            have HZK := Hid.mk hz'.k
            have HB4 := Hid.mk (HB3.out.go hb4)
            have HX4 := Hid.mk (HX3.out.go hb4)
            have HBL4 := Hid.mk (below_go HBL3.out hb4)
            clear hb4 hz' d0 d33 HDE
            go_upto_region 11 with (first | refine wpList_store_row rfl 29 _ _ rfl _ z'.cells.toArray rfl rfl 29 _ (heap_alloc_new _ _) (infoN' HZL.out) (nz_size HZL.out) (all_oneCell_toArray (NV.one _)) ?_)
            refine gen_w (p := fun v => Code.wp _ _ _ _ v) (q := fun u => NBx w4.heap.size u z' ∧ Below w4.heap.size w4 u) ⟨⟨setRow_heap _ _ _ _ _ _ (heap_alloc_new _ _), HZL.out⟩, Below.setRow (below_new w4 _) (Nat.le_refl _) _⟩ ?_
            rintro v5 ⟨B5, b5⟩
            have HS5 := Hid.mk (show RBx wr.heap.size v5 y ∧ NBx w4.heap.size v5 z' ∧ NBx w.heap.size v5 x ∧ Below w2.heap.size w2 v5 from ⟨HB4.out.go b5, B5, HX4.out.go b5, below_go HBL4.out b5⟩)
            have HSC := Hid.mk (show ∀ w', Below v5.drew.heap.size v5.drew w' → RBx wr.heap.size w' y ∧ NBx w4.heap.size w' z' ∧ NBx w.heap.size w' x ∧ Below w2.heap.size w2 w' from fun w' hb => ⟨HS5.out.1.go (below_go (Below.refl _ _).drew hb), HS5.out.2.1.go (below_go (Below.refl _ _).drew hb), HS5.out.2.2.1.go (below_go (Below.refl _ _).drew hb), below_go HS5.out.2.2.2.drew hb⟩)
            clear B5 b5 HB3 HX3 HBL3 HB4 HX4 HBL4
            rename_i KK hkk
            by_cases hlb : (m1 : Int) < 32
            · have HLB := Hid.mk (decide_eq_true hlb)
              by_cases hn3 : x.k = 3
              · have HK3 := Hid.mk (show (x.k == 3) = true from by simp [hn3])
                have HM3 := Hid.mk (show (z'.k == 3) = false from by
                  rw [beq_eq_false_iff_ne]
                  intro e3
                  refine HNO.out (by rw [← HX.out.k]; exact hn3) (by rw [← HZK.out]; exact e3) ?_
                  have := HLEN.out
                  omega)
                refine wp_region_held_drew (S := fun v' => RBx wr.heap.size v' y ∧ NBx w4.heap.size v' z' ∧ NBx w.heap.size v' x ∧ Below w2.heap.size w2 v') (by kernel_rfl) ⟨⟨HS5.out.1.row, HS5.out.1.l⟩, ⟨HS5.out.2.1.row, HS5.out.2.1.l⟩, ⟨HS5.out.2.2.1.row, HS5.out.2.2.1.l⟩, HS5.out.2.2.2.drew⟩ (fun hS => ?_)
                refine rd_take 0 45 (.int .i64 0) rfl rfl (by kernel_rfl) (by kernel_rfl) (by kernel_rfl) (fun _ _ _ h => h) (by kernel_rfl) (fun v _ => by kernel_rfl) hS ?_
                refine rd_take 1 46 (.bool false) rfl rfl (by kernel_rfl) (by kernel_rfl) (by kernel_rfl) (fun _ _ _ h => h) (by kernel_rfl) (fun v _ => by kernel_rfl) hS ?_
                refine rd_take 2 47 (.bool false) rfl rfl (by kernel_rfl) (by kernel_rfl) (by kernel_rfl) (fun _ _ _ h => h) (by kernel_rfl) (fun v _ => by kernel_rfl) hS ?_
                refine rd_take 3 48 (.pointer (some ⟨wr.heap.size, 33, none⟩)) rfl rfl (by kernel_rfl) (by kernel_rfl) (by kernel_rfl) (fun _ _ _ h => h) (by kernel_rfl) (fun v _ => by kernel_rfl) hS ?_
                refine rd_take 4 49 (.slice y.a y.n y.c) rfl rfl (by kernel_rfl) (by kernel_rfl) (by kernel_rfl) (fun _ _ _ h => h) (by kernel_rfl) (fun v' hv => rd_loadB rfl (by kernel_rfl) hv.1.c33) hS ?_
                refine rd_take 6 51 (.agg y.cells.toArray) rfl rfl (by kernel_rfl) (by kernel_rfl) (by kernel_rfl) (fun _ _ _ h => h) (by kernel_rfl) (fun v' hv => rd_loadRr rfl (by kernel_rfl) HL.out hv.1.all) hS ?_
                refine wpAnyH_ready (rs := [5]) (by kernel_rfl) (by simp) ?_
                refine rd_call 5 50 rfl rfl (by kernel_rfl) 10 #[.slice y.a y.n y.c] (by kernel_rfl) (R := fun val w' => Below v5.drew.heap.size v5.drew w' ∧ ∃ z : RV, val = .agg z.cells.toArray ∧ RefAt (Own v5.drew.heap.size w') w' z ⟨1, z32, r.i⟩) ((refer_short y.a y.n y.c r.i v5.drew (HYR.out.2.2.2.2.1.at (below_go HBW.out hS.2.2.2)) HN32.out).mono (fun e w' h => by
                    obtain ⟨⟨z, e1, hz⟩, hb⟩ := h
                    exact ⟨_, e1, hb, z, rfl, hz⟩)) (fun val w' h => HSC.out w' h.1) ?_ AllReadyH.nil
                rintro val u1 ⟨hb1, z, rfl, hz⟩
                have hS1 := HSC.out u1 hb1
                refine wpAnyH_ready (rs := [7]) (by kernel_rfl) (by simp) ?_
                refine rd_call 7 52 rfl rfl (by kernel_rfl) 9 #[.agg z.cells.toArray, .agg y.cells.toArray] (by kernel_rfl) (R := fun val w' => val = .bool true ∧ Below u1.heap.size u1 w') ((sameRef_any _ K z y ⟨1, z32, r.i⟩ r u1 hz (HYR.out.go (Keep.below (below_go HBW.out hS1.2.2.2)))).mono (fun e w' h => ⟨_, h.1, by rw [reqP_iff.2 HRE.out.symm], h.2⟩)) (fun val w' h => ⟨hS1.1.go h.2, hS1.2.1.go h.2, hS1.2.2.1.go h.2, below_go hS1.2.2.2 h.2⟩) ?_ AllReadyH.nil
                rintro val u2 ⟨rfl, hb2⟩
                have hS2 : RBx wr.heap.size u2 y ∧ NBx w4.heap.size u2 z' ∧ NBx w.heap.size u2 x ∧ Below w2.heap.size w2 u2 := ⟨hS1.1.go hb2, hS1.2.1.go hb2, hS1.2.2.1.go hb2, below_go hS1.2.2.2 hb2⟩
                refine rd_take 8 53 (.bool false) rfl rfl (by kernel_rfl) (by kernel_rfl) (by kernel_rfl) (fun _ _ _ h => h) (by kernel_rfl) (fun v _ => by kernel_rfl) hS2 ?_
                refine rd_take 9 54 (.bool false) rfl rfl (by kernel_rfl) (by kernel_rfl) (by kernel_rfl) (fun _ _ _ h => h) (by kernel_rfl) (fun v _ => by kernel_rfl) hS2 ?_
                refine rd_take 10 55 (.bool false) rfl rfl (by kernel_rfl) (by kernel_rfl) (by kernel_rfl) (fun _ _ _ h => h) (by kernel_rfl) (fun v _ => by kernel_rfl) hS2 ?_
                refine rd_take 11 56 (.slice a1 m1 c1) rfl rfl (by kernel_rfl) (by kernel_rfl) (by kernel_rfl) (fun _ _ _ h => h) (by kernel_rfl) (fun v _ => by kernel_rfl) hS2 ?_
                refine rd_take 12 57 (.int .i64 m1) rfl rfl (by kernel_rfl) (by kernel_rfl) (by kernel_rfl) (fun _ _ _ h => h) (by kernel_rfl) (fun v _ => by kernel_rfl) hS2 ?_
                refine rd_take 13 58 (.bool true) rfl rfl (by kernel_rfl) (by kernel_rfl) (by kernel_rfl) (fun _ _ _ h => h) (by kernel_rfl) (fun v _ => rd_lss rfl (by kernel_rfl) (by kernel_rfl) HLB.out) hS2 ?_
                refine rd_take 14 59 (.bool true) rfl rfl (by kernel_rfl) (by kernel_rfl) (by kernel_rfl) (fun _ _ _ h => h) (by kernel_rfl) (fun v _ => by kernel_rfl) hS2 ?_
                refine rd_take 15 60 (.pointer (some ⟨w.heap.size, 0, none⟩)) rfl rfl (by kernel_rfl) (by kernel_rfl) (by kernel_rfl) (fun _ _ _ h => h) (by kernel_rfl) (fun v _ => by kernel_rfl) hS2 ?_
                refine rd_take 16 61 (.int .i64 x.k) rfl rfl (by kernel_rfl) (by kernel_rfl) (by kernel_rfl) (fun _ _ _ h => h) (by kernel_rfl) (fun v' hv => rd_loadi rfl (by kernel_rfl) hv.2.2.1.c0) hS2 ?_
                refine rd_take 17 62 (.bool true) rfl rfl (by kernel_rfl) (by kernel_rfl) (by kernel_rfl) (fun _ _ _ h => h) (by kernel_rfl) (fun v _ => rd_eqi rfl (by kernel_rfl) (by kernel_rfl) HK3.out) hS2 ?_
                refine rd_take 18 63 (.bool true) rfl rfl (by kernel_rfl) (by kernel_rfl) (by kernel_rfl) (fun _ _ _ h => h) (by kernel_rfl) (fun v _ => by kernel_rfl) hS2 ?_
                refine rd_take 19 64 (.bool true) rfl rfl (by kernel_rfl) (by kernel_rfl) (by kernel_rfl) (fun _ _ _ h => h) (by kernel_rfl) (fun v _ => by kernel_rfl) hS2 ?_
                refine rd_take 20 65 (.pointer (some ⟨w4.heap.size, 0, none⟩)) rfl rfl (by kernel_rfl) (by kernel_rfl) (by kernel_rfl) (fun _ _ _ h => h) (by kernel_rfl) (fun v _ => by kernel_rfl) hS2 ?_
                refine rd_take 21 66 (.int .i64 z'.k) rfl rfl (by kernel_rfl) (by kernel_rfl) (by kernel_rfl) (fun _ _ _ h => h) (by kernel_rfl) (fun v' hv => rd_loadi rfl (by kernel_rfl) hv.2.1.c0) hS2 ?_
                refine rd_take 22 67 (.bool false) rfl rfl (by kernel_rfl) (by kernel_rfl) (by kernel_rfl) (fun _ _ _ h => h) (by kernel_rfl) (fun v _ => rd_eqi rfl (by kernel_rfl) (by kernel_rfl) HM3.out) hS2 ?_
                refine rd_take 23 68 (.bool false) rfl rfl (by kernel_rfl) (by kernel_rfl) (by kernel_rfl) (fun _ _ _ h => h) (by kernel_rfl) (fun v _ => by kernel_rfl) hS2 ?_
                refine rd_take 24 69 (.bool false) rfl rfl (by kernel_rfl) (by kernel_rfl) (by kernel_rfl) (fun _ _ _ h => h) (by kernel_rfl) (fun v _ => by kernel_rfl) hS2 ?_
                refine wpAnyH_done (by kernel_rfl) ?_ _
                refine hkk _ _ ?_
                have HS2 := Hid.mk hS2
                clear hS2 hb2 hS1 hb1 hS hkk hz
                go_frame
                go_wp2_with fail
                exact ⟨⟨j + 1, by omega, by simp, HS2.out.2.2.1, HS2.out.2.2.2⟩, by simp [intOf]; omega⟩
              · have HK3 := Hid.mk (show (x.k == 3) = false from by simp [hn3])
                refine wp_region_held_drew (S := fun v' => RBx wr.heap.size v' y ∧ NBx w4.heap.size v' z' ∧ NBx w.heap.size v' x ∧ Below w2.heap.size w2 v') (by kernel_rfl) ⟨⟨HS5.out.1.row, HS5.out.1.l⟩, ⟨HS5.out.2.1.row, HS5.out.2.1.l⟩, ⟨HS5.out.2.2.1.row, HS5.out.2.2.1.l⟩, HS5.out.2.2.2.drew⟩ (fun hS => ?_)
                refine rd_take 0 45 (.int .i64 0) rfl rfl (by kernel_rfl) (by kernel_rfl) (by kernel_rfl) (fun _ _ _ h => h) (by kernel_rfl) (fun v _ => by kernel_rfl) hS ?_
                refine rd_take 1 46 (.bool false) rfl rfl (by kernel_rfl) (by kernel_rfl) (by kernel_rfl) (fun _ _ _ h => h) (by kernel_rfl) (fun v _ => by kernel_rfl) hS ?_
                refine rd_take 2 47 (.bool false) rfl rfl (by kernel_rfl) (by kernel_rfl) (by kernel_rfl) (fun _ _ _ h => h) (by kernel_rfl) (fun v _ => by kernel_rfl) hS ?_
                refine rd_take 3 48 (.pointer (some ⟨wr.heap.size, 33, none⟩)) rfl rfl (by kernel_rfl) (by kernel_rfl) (by kernel_rfl) (fun _ _ _ h => h) (by kernel_rfl) (fun v _ => by kernel_rfl) hS ?_
                refine rd_take 4 49 (.slice y.a y.n y.c) rfl rfl (by kernel_rfl) (by kernel_rfl) (by kernel_rfl) (fun _ _ _ h => h) (by kernel_rfl) (fun v' hv => rd_loadB rfl (by kernel_rfl) hv.1.c33) hS ?_
                refine rd_take 6 51 (.agg y.cells.toArray) rfl rfl (by kernel_rfl) (by kernel_rfl) (by kernel_rfl) (fun _ _ _ h => h) (by kernel_rfl) (fun v' hv => rd_loadRr rfl (by kernel_rfl) HL.out hv.1.all) hS ?_
                refine wpAnyH_ready (rs := [5]) (by kernel_rfl) (by simp) ?_
                refine rd_call 5 50 rfl rfl (by kernel_rfl) 10 #[.slice y.a y.n y.c] (by kernel_rfl) (R := fun val w' => Below v5.drew.heap.size v5.drew w' ∧ ∃ z : RV, val = .agg z.cells.toArray ∧ RefAt (Own v5.drew.heap.size w') w' z ⟨1, z32, r.i⟩) ((refer_short y.a y.n y.c r.i v5.drew (HYR.out.2.2.2.2.1.at (below_go HBW.out hS.2.2.2)) HN32.out).mono (fun e w' h => by
                    obtain ⟨⟨z, e1, hz⟩, hb⟩ := h
                    exact ⟨_, e1, hb, z, rfl, hz⟩)) (fun val w' h => HSC.out w' h.1) ?_ AllReadyH.nil
                rintro val u1 ⟨hb1, z, rfl, hz⟩
                have hS1 := HSC.out u1 hb1
                refine wpAnyH_ready (rs := [7]) (by kernel_rfl) (by simp) ?_
                refine rd_call 7 52 rfl rfl (by kernel_rfl) 9 #[.agg z.cells.toArray, .agg y.cells.toArray] (by kernel_rfl) (R := fun val w' => val = .bool true ∧ Below u1.heap.size u1 w') ((sameRef_any _ K z y ⟨1, z32, r.i⟩ r u1 hz (HYR.out.go (Keep.below (below_go HBW.out hS1.2.2.2)))).mono (fun e w' h => ⟨_, h.1, by rw [reqP_iff.2 HRE.out.symm], h.2⟩)) (fun val w' h => ⟨hS1.1.go h.2, hS1.2.1.go h.2, hS1.2.2.1.go h.2, below_go hS1.2.2.2 h.2⟩) ?_ AllReadyH.nil
                rintro val u2 ⟨rfl, hb2⟩
                have hS2 : RBx wr.heap.size u2 y ∧ NBx w4.heap.size u2 z' ∧ NBx w.heap.size u2 x ∧ Below w2.heap.size w2 u2 := ⟨hS1.1.go hb2, hS1.2.1.go hb2, hS1.2.2.1.go hb2, below_go hS1.2.2.2 hb2⟩
                refine rd_take 8 53 (.bool false) rfl rfl (by kernel_rfl) (by kernel_rfl) (by kernel_rfl) (fun _ _ _ h => h) (by kernel_rfl) (fun v _ => by kernel_rfl) hS2 ?_
                refine rd_take 9 54 (.bool false) rfl rfl (by kernel_rfl) (by kernel_rfl) (by kernel_rfl) (fun _ _ _ h => h) (by kernel_rfl) (fun v _ => by kernel_rfl) hS2 ?_
                refine rd_take 10 55 (.bool false) rfl rfl (by kernel_rfl) (by kernel_rfl) (by kernel_rfl) (fun _ _ _ h => h) (by kernel_rfl) (fun v _ => by kernel_rfl) hS2 ?_
                refine rd_take 11 56 (.slice a1 m1 c1) rfl rfl (by kernel_rfl) (by kernel_rfl) (by kernel_rfl) (fun _ _ _ h => h) (by kernel_rfl) (fun v _ => by kernel_rfl) hS2 ?_
                refine rd_take 12 57 (.int .i64 m1) rfl rfl (by kernel_rfl) (by kernel_rfl) (by kernel_rfl) (fun _ _ _ h => h) (by kernel_rfl) (fun v _ => by kernel_rfl) hS2 ?_
                refine rd_take 13 58 (.bool true) rfl rfl (by kernel_rfl) (by kernel_rfl) (by kernel_rfl) (fun _ _ _ h => h) (by kernel_rfl) (fun v _ => rd_lss rfl (by kernel_rfl) (by kernel_rfl) HLB.out) hS2 ?_
                refine rd_take 14 59 (.bool true) rfl rfl (by kernel_rfl) (by kernel_rfl) (by kernel_rfl) (fun _ _ _ h => h) (by kernel_rfl) (fun v _ => by kernel_rfl) hS2 ?_
                refine rd_take 15 60 (.pointer (some ⟨w.heap.size, 0, none⟩)) rfl rfl (by kernel_rfl) (by kernel_rfl) (by kernel_rfl) (fun _ _ _ h => h) (by kernel_rfl) (fun v _ => by kernel_rfl) hS2 ?_
                refine rd_take 16 61 (.int .i64 x.k) rfl rfl (by kernel_rfl) (by kernel_rfl) (by kernel_rfl) (fun _ _ _ h => h) (by kernel_rfl) (fun v' hv => rd_loadi rfl (by kernel_rfl) hv.2.2.1.c0) hS2 ?_
                refine rd_take 17 62 (.bool false) rfl rfl (by kernel_rfl) (by kernel_rfl) (by kernel_rfl) (fun _ _ _ h => h) (by kernel_rfl) (fun v _ => rd_eqi rfl (by kernel_rfl) (by kernel_rfl) HK3.out) hS2 ?_
                refine rd_take 18 63 (.bool false) rfl rfl (by kernel_rfl) (by kernel_rfl) (by kernel_rfl) (fun _ _ _ h => h) (by kernel_rfl) (fun v _ => by kernel_rfl) hS2 ?_
                refine rd_take 19 64 (.bool false) rfl rfl (by kernel_rfl) (by kernel_rfl) (by kernel_rfl) (fun _ _ _ h => h) (by kernel_rfl) (fun v _ => by kernel_rfl) hS2 ?_
                refine rd_skip 20 65 rfl rfl (by kernel_rfl) (by kernel_rfl) (by kernel_rfl) (fun _ _ _ h => h) (by kernel_rfl) hS2 ?_
                refine rd_skip 21 66 rfl rfl (by kernel_rfl) (by kernel_rfl) (by kernel_rfl) (fun _ _ _ h => h) (by kernel_rfl) hS2 ?_
                refine rd_skip 22 67 rfl rfl (by kernel_rfl) (by kernel_rfl) (by kernel_rfl) (fun _ _ _ h => h) (by kernel_rfl) hS2 ?_
                refine rd_take 23 68 (.bool false) rfl rfl (by kernel_rfl) (by kernel_rfl) (by kernel_rfl) (fun _ _ _ h => h) (by kernel_rfl) (fun v _ => by kernel_rfl) hS2 ?_
                refine rd_take 24 69 (.bool false) rfl rfl (by kernel_rfl) (by kernel_rfl) (by kernel_rfl) (fun _ _ _ h => h) (by kernel_rfl) (fun v _ => by kernel_rfl) hS2 ?_
                refine wpAnyH_done (by kernel_rfl) ?_ _
                refine hkk _ _ ?_
                have HS2 := Hid.mk hS2
                clear hS2 hb2 hS1 hb1 hS hkk hz
                go_frame
                go_wp2_with fail
                exact ⟨⟨j + 1, by omega, by simp, HS2.out.2.2.1, HS2.out.2.2.2⟩, by simp [intOf]; omega⟩
            · have HLB := Hid.mk (decide_eq_false hlb)
              refine wp_region_held_drew (S := fun v' => RBx wr.heap.size v' y ∧ NBx w4.heap.size v' z' ∧ NBx w.heap.size v' x ∧ Below w2.heap.size w2 v') (by kernel_rfl) ⟨⟨HS5.out.1.row, HS5.out.1.l⟩, ⟨HS5.out.2.1.row, HS5.out.2.1.l⟩, ⟨HS5.out.2.2.1.row, HS5.out.2.2.1.l⟩, HS5.out.2.2.2.drew⟩ (fun hS => ?_)
              refine rd_take 0 45 (.int .i64 0) rfl rfl (by kernel_rfl) (by kernel_rfl) (by kernel_rfl) (fun _ _ _ h => h) (by kernel_rfl) (fun v _ => by kernel_rfl) hS ?_
              refine rd_take 1 46 (.bool false) rfl rfl (by kernel_rfl) (by kernel_rfl) (by kernel_rfl) (fun _ _ _ h => h) (by kernel_rfl) (fun v _ => by kernel_rfl) hS ?_
              refine rd_take 2 47 (.bool false) rfl rfl (by kernel_rfl) (by kernel_rfl) (by kernel_rfl) (fun _ _ _ h => h) (by kernel_rfl) (fun v _ => by kernel_rfl) hS ?_
              refine rd_take 3 48 (.pointer (some ⟨wr.heap.size, 33, none⟩)) rfl rfl (by kernel_rfl) (by kernel_rfl) (by kernel_rfl) (fun _ _ _ h => h) (by kernel_rfl) (fun v _ => by kernel_rfl) hS ?_
              refine rd_take 4 49 (.slice y.a y.n y.c) rfl rfl (by kernel_rfl) (by kernel_rfl) (by kernel_rfl) (fun _ _ _ h => h) (by kernel_rfl) (fun v' hv => rd_loadB rfl (by kernel_rfl) hv.1.c33) hS ?_
              refine rd_take 6 51 (.agg y.cells.toArray) rfl rfl (by kernel_rfl) (by kernel_rfl) (by kernel_rfl) (fun _ _ _ h => h) (by kernel_rfl) (fun v' hv => rd_loadRr rfl (by kernel_rfl) HL.out hv.1.all) hS ?_
              refine wpAnyH_ready (rs := [5]) (by kernel_rfl) (by simp) ?_
              refine rd_call 5 50 rfl rfl (by kernel_rfl) 10 #[.slice y.a y.n y.c] (by kernel_rfl) (R := fun val w' => Below v5.drew.heap.size v5.drew w' ∧ ∃ z : RV, val = .agg z.cells.toArray ∧ RefAt (Own v5.drew.heap.size w') w' z ⟨1, z32, r.i⟩) ((refer_short y.a y.n y.c r.i v5.drew (HYR.out.2.2.2.2.1.at (below_go HBW.out hS.2.2.2)) HN32.out).mono (fun e w' h => by
                  obtain ⟨⟨z, e1, hz⟩, hb⟩ := h
                  exact ⟨_, e1, hb, z, rfl, hz⟩)) (fun val w' h => HSC.out w' h.1) ?_ AllReadyH.nil
              rintro val u1 ⟨hb1, z, rfl, hz⟩
              have hS1 := HSC.out u1 hb1
              refine wpAnyH_ready (rs := [7]) (by kernel_rfl) (by simp) ?_
              refine rd_call 7 52 rfl rfl (by kernel_rfl) 9 #[.agg z.cells.toArray, .agg y.cells.toArray] (by kernel_rfl) (R := fun val w' => val = .bool true ∧ Below u1.heap.size u1 w') ((sameRef_any _ K z y ⟨1, z32, r.i⟩ r u1 hz (HYR.out.go (Keep.below (below_go HBW.out hS1.2.2.2)))).mono (fun e w' h => ⟨_, h.1, by rw [reqP_iff.2 HRE.out.symm], h.2⟩)) (fun val w' h => ⟨hS1.1.go h.2, hS1.2.1.go h.2, hS1.2.2.1.go h.2, below_go hS1.2.2.2 h.2⟩) ?_ AllReadyH.nil
              rintro val u2 ⟨rfl, hb2⟩
              have hS2 : RBx wr.heap.size u2 y ∧ NBx w4.heap.size u2 z' ∧ NBx w.heap.size u2 x ∧ Below w2.heap.size w2 u2 := ⟨hS1.1.go hb2, hS1.2.1.go hb2, hS1.2.2.1.go hb2, below_go hS1.2.2.2 hb2⟩
              refine rd_take 8 53 (.bool false) rfl rfl (by kernel_rfl) (by kernel_rfl) (by kernel_rfl) (fun _ _ _ h => h) (by kernel_rfl) (fun v _ => by kernel_rfl) hS2 ?_
              refine rd_take 9 54 (.bool false) rfl rfl (by kernel_rfl) (by kernel_rfl) (by kernel_rfl) (fun _ _ _ h => h) (by kernel_rfl) (fun v _ => by kernel_rfl) hS2 ?_
              refine rd_take 10 55 (.bool false) rfl rfl (by kernel_rfl) (by kernel_rfl) (by kernel_rfl) (fun _ _ _ h => h) (by kernel_rfl) (fun v _ => by kernel_rfl) hS2 ?_
              refine rd_take 11 56 (.slice a1 m1 c1) rfl rfl (by kernel_rfl) (by kernel_rfl) (by kernel_rfl) (fun _ _ _ h => h) (by kernel_rfl) (fun v _ => by kernel_rfl) hS2 ?_
              refine rd_take 12 57 (.int .i64 m1) rfl rfl (by kernel_rfl) (by kernel_rfl) (by kernel_rfl) (fun _ _ _ h => h) (by kernel_rfl) (fun v _ => by kernel_rfl) hS2 ?_
              refine rd_take 13 58 (.bool false) rfl rfl (by kernel_rfl) (by kernel_rfl) (by kernel_rfl) (fun _ _ _ h => h) (by kernel_rfl) (fun v _ => rd_lss rfl (by kernel_rfl) (by kernel_rfl) HLB.out) hS2 ?_
              refine rd_take 14 59 (.bool false) rfl rfl (by kernel_rfl) (by kernel_rfl) (by kernel_rfl) (fun _ _ _ h => h) (by kernel_rfl) (fun v _ => by kernel_rfl) hS2 ?_
              refine rd_skip 15 60 rfl rfl (by kernel_rfl) (by kernel_rfl) (by kernel_rfl) (fun _ _ _ h => h) (by kernel_rfl) hS2 ?_
              refine rd_skip 16 61 rfl rfl (by kernel_rfl) (by kernel_rfl) (by kernel_rfl) (fun _ _ _ h => h) (by kernel_rfl) hS2 ?_
              refine rd_skip 17 62 rfl rfl (by kernel_rfl) (by kernel_rfl) (by kernel_rfl) (fun _ _ _ h => h) (by kernel_rfl) hS2 ?_
              refine rd_take 18 63 (.bool false) rfl rfl (by kernel_rfl) (by kernel_rfl) (by kernel_rfl) (fun _ _ _ h => h) (by kernel_rfl) (fun v _ => by kernel_rfl) hS2 ?_
              refine rd_take 19 64 (.bool false) rfl rfl (by kernel_rfl) (by kernel_rfl) (by kernel_rfl) (fun _ _ _ h => h) (by kernel_rfl) (fun v _ => by kernel_rfl) hS2 ?_
              refine rd_skip 20 65 rfl rfl (by kernel_rfl) (by kernel_rfl) (by kernel_rfl) (fun _ _ _ h => h) (by kernel_rfl) hS2 ?_
              refine rd_skip 21 66 rfl rfl (by kernel_rfl) (by kernel_rfl) (by kernel_rfl) (fun _ _ _ h => h) (by kernel_rfl) hS2 ?_
              refine rd_skip 22 67 rfl rfl (by kernel_rfl) (by kernel_rfl) (by kernel_rfl) (fun _ _ _ h => h) (by kernel_rfl) hS2 ?_
              refine rd_take 23 68 (.bool false) rfl rfl (by kernel_rfl) (by kernel_rfl) (by kernel_rfl) (fun _ _ _ h => h) (by kernel_rfl) (fun v _ => by kernel_rfl) hS2 ?_
              refine rd_take 24 69 (.bool false) rfl rfl (by kernel_rfl) (by kernel_rfl) (by kernel_rfl) (fun _ _ _ h => h) (by kernel_rfl) (fun v _ => by kernel_rfl) hS2 ?_
              refine wpAnyH_done (by kernel_rfl) ?_ _
              refine hkk _ _ ?_
              have HS2 := Hid.mk hS2
              clear hS2 hb2 hS1 hb1 hS hkk hz
              go_frame
              go_wp2_with fail
              exact ⟨⟨j + 1, by omega, by simp, HS2.out.2.2.1, HS2.out.2.2.2⟩, by simp [intOf]; omega⟩
          · have hk1b : (y.k != 1) = true := by simp [hk1]
            go_wp2_with fail
            exact ⟨⟨j + 1, by omega, by simp, HX3.out, HBL3.out⟩, by simp [intOf]; omega⟩
        · have hji : ¬ (j : Int) < tot := by omega
          go_wp2_with fail
          refine (alive_any wr).mono ?_
          rintro e w3 ⟨rfl, hb3⟩
          have HBF := Hid.mk (below_go (below_go HB2.out HBR.out) hb3)
          clear hb3
          go_wp2_with fail
          go_ret
          exact ⟨rfl, HBF.out⟩
    · have hk3b : (x.k == 3) = false := by simp [hk3]
      have HKK := Hid.mk hk3
      go_upto_region 6 with fail
      rename_i KK hkk
      refine wp_region_lit ?_
      refine wl_pure 25 (.pointer (some ⟨w.heap.size, 3, none⟩)) rfl (by kernel_rfl) (by kernel_rfl) ?_
      refine wl_pure 26 (.agg x.c.cells.toArray) rfl (by kernel_rfl) (rd_loadRr rfl (by kernel_rfl) HX.out.c.len HX1.out.child) ?_
      refine wl_run 27 (.slice (some ⟨w1.heap.size, 0, none⟩) 1 1) rfl (by kernel_rfl) (rd_buildR rfl x.c HX.out.c.len (by kernel_rfl)) ?_
      refine wl_pure 28 (.pointer (some ⟨w.heap.size, 37, none⟩)) rfl (by kernel_rfl) (by kernel_rfl) ?_
      refine wl_pure 29 (.slice x.ka x.kn x.kc) rfl (by kernel_rfl) (rd_loadK rfl (by kernel_rfl) HC37.out) ?_
      refine wl_run 30 (.slice (some ⟨g, 0, none⟩) (x.kn + 1) cap) rfl (by kernel_rfl) (rd_app rfl _ _ (by kernel_rfl) (by kernel_rfl) HRUN.out) ?_
      refine wl_pure 31 (.int .i64 ((x.kn + 1 : Nat) : Int)) rfl (by kernel_rfl) (by kernel_rfl) ?_
      refine wl_pure 32 (.int .i64 0) rfl (by kernel_rfl) (by kernel_rfl) ?_
      refine hkk _ _ ?_
      clear hkk c0 c37
      obtain ⟨tot, htot⟩ : ∃ tot, x.kn + 1 = tot := ⟨_, rfl⟩
      rw [htot] at HYSL hcap ⊢
      clear HRUN HC37
      go_frame
      go_wp2_with fail
      go_loopw [32] (fun s32 u => ∃ j : Nat, j ≤ tot ∧ s32 = .int .i64 j ∧ NBx w.heap.size u x ∧ Below w2.heap.size w2 u) (fun s32 _ => tot - (intOf s32).toNat)
      case atStart => exact ⟨0, by omega, rfl, HX2.out, Below.refl _ _⟩
      case round =>
        obtain ⟨j, hj, rfl, XR, hbr⟩ := hrel
        have HXR := Hid.mk XR
        have HBR := Hid.mk hbr
        clear XR hbr
        by_cases hlt : j < tot
        · have hji : (j : Int) < tot := by omega
          obtain ⟨y, hy⟩ : ∃ y, ys[j]? = some y := ⟨_, List.getElem?_eq_getElem (by rw [HYSL.out]; exact hlt)⟩
          obtain ⟨r, hr⟩ : ∃ r, (n.c :: n.ks)[j]? = some r := ⟨_, List.getElem?_eq_getElem (by rw [HRA.out.1, HYSL.out]; exact hlt)⟩
          have HYR := Hid.mk (HRA.out.2.2 j y r hy hr)
          have HL := Hid.mk HYR.out.len
          have HRGJ := Hid.mk (range_keep (HRG.out j y hy) (fun hl => HBR.out.block g hl))
          have HMEM := Hid.mk (List.mem_of_getElem? hr)
          have HBW := Hid.mk HB2.out
          clear hy hr
          have hz0 : ∀ w0 : World, w0.rangeAt g (0 + j * 34) y.cells → w0.rangeAt g (0 + j * 34) y.cells := fun _ h => h
          clear hz0
          go_upto_region 9 with (first | refine wpl_loadR rfl _ rfl g (j * 34) rfl y HL.out HRGJ.out ?_ | refine wpList_store_row rfl 26 _ _ rfl _ y.cells.toArray rfl rfl 26 _ (heap_alloc_new _ _) (infoR' HL.out) (rz_size HL.out) (all_oneCell_toArray (RV.one _)) ?_)
          refine gen_w (p := fun v => Code.wp _ _ _ _ v) (q := fun u => RBx wr.heap.size u y ∧ Below wr.heap.size wr u) ⟨⟨setRow_heap _ _ _ _ _ _ (heap_alloc_new _ _), HL.out⟩, Below.setRow (below_new wr _) (Nat.le_refl _) _⟩ ?_
          rintro v3 ⟨B3, b3⟩
          have d0 := B3.c0
          have d33 := B3.c33
          have HB3 := Hid.mk B3
          have HX3 := Hid.mk (HXR.out.go b3)
          have HBL3 := Hid.mk (below_go HBR.out b3)
          clear B3 b3
          by_cases hk1 : y.k = 1
          · obtain ⟨m, hm, hre, h32, hib, hno⟩ := inline_in HX.out.okN HQ.out HMEM.out (by rw [← HYR.out.1]; exact hk1)
            have HRE := Hid.mk hre
            have HNO := Hid.mk hno
            have HN32 := Hid.mk (show y.n < 32 from by rw [← HYR.out.2.2.2.2.l]; exact h32)
            have HDE := Hid.mk (ndecode_any r.i y.a y.n y.c v3 (HYR.out.2.2.2.2.1.at (below_go HBW.out HBL3.out)) HYR.out.2.2.2.2.2.1)
            rw [hm] at HDE
            have HK1 := Hid.mk hk1
            clear hm hre h32 hib hno
            go_wp2_with fail
            refine HDE.out.mono ?_
            rintro e w4 ⟨hb4, z', rfl, hz'⟩
            have HZL := Hid.mk hz'.c.len
            have HZK := Hid.mk hz'.k
            have HB4 := Hid.mk (HB3.out.go hb4)
            have HX4 := Hid.mk (HX3.out.go hb4)
            have HBL4 := Hid.mk (below_go HBL3.out hb4)
            clear hb4 hz' d0 d33 HDE
            go_upto_region 11 with (first | refine wpList_store_row rfl 29 _ _ rfl _ z'.cells.toArray rfl rfl 29 _ (heap_alloc_new _ _) (infoN' HZL.out) (nz_size HZL.out) (all_oneCell_toArray (NV.one _)) ?_)
            refine gen_w (p := fun v => Code.wp _ _ _ _ v) (q := fun u => NBx w4.heap.size u z' ∧ Below w4.heap.size w4 u) ⟨⟨setRow_heap _ _ _ _ _ _ (heap_alloc_new _ _), HZL.out⟩, Below.setRow (below_new w4 _) (Nat.le_refl _) _⟩ ?_
            rintro v5 ⟨B5, b5⟩
            have HS5 := Hid.mk (show RBx wr.heap.size v5 y ∧ NBx w4.heap.size v5 z' ∧ NBx w.heap.size v5 x ∧ Below w2.heap.size w2 v5 from ⟨HB4.out.go b5, B5, HX4.out.go b5, below_go HBL4.out b5⟩)
            have HSC := Hid.mk (show ∀ w', Below v5.drew.heap.size v5.drew w' → RBx wr.heap.size w' y ∧ NBx w4.heap.size w' z' ∧ NBx w.heap.size w' x ∧ Below w2.heap.size w2 w' from fun w' hb => ⟨HS5.out.1.go (below_go (Below.refl _ _).drew hb), HS5.out.2.1.go (below_go (Below.refl _ _).drew hb), HS5.out.2.2.1.go (below_go (Below.refl _ _).drew hb), below_go HS5.out.2.2.2.drew hb⟩)
            clear B5 b5 HB3 HX3 HBL3 HB4 HX4 HBL4
            rename_i KK hkk
            by_cases hlb : (m1 : Int) < 32
            · have HLB := Hid.mk (decide_eq_true hlb)
              by_cases hn3 : x.k = 3
              · have HK3 := Hid.mk (show (x.k == 3) = true from by simp [hn3])
                have HM3 := Hid.mk (show (z'.k == 3) = false from by
                  rw [beq_eq_false_iff_ne]
                  intro e3
                  refine HNO.out (by rw [← HX.out.k]; exact hn3) (by rw [← HZK.out]; exact e3) ?_
                  have := HLEN.out
                  omega)
                refine wp_region_held_drew (S := fun v' => RBx wr.heap.size v' y ∧ NBx w4.heap.size v' z' ∧ NBx w.heap.size v' x ∧ Below w2.heap.size w2 v') (by kernel_rfl) ⟨⟨HS5.out.1.row, HS5.out.1.l⟩, ⟨HS5.out.2.1.row, HS5.out.2.1.l⟩, ⟨HS5.out.2.2.1.row, HS5.out.2.2.1.l⟩, HS5.out.2.2.2.drew⟩ (fun hS => ?_)
                refine rd_take 0 45 (.int .i64 0) rfl rfl (by kernel_rfl) (by kernel_rfl) (by kernel_rfl) (fun _ _ _ h => h) (by kernel_rfl) (fun v _ => by kernel_rfl) hS ?_
                refine rd_take 1 46 (.bool false) rfl rfl (by kernel_rfl) (by kernel_rfl) (by kernel_rfl) (fun _ _ _ h => h) (by kernel_rfl) (fun v _ => by kernel_rfl) hS ?_
                refine rd_take 2 47 (.bool false) rfl rfl (by kernel_rfl) (by kernel_rfl) (by kernel_rfl) (fun _ _ _ h => h) (by kernel_rfl) (fun v _ => by kernel_rfl) hS ?_
                refine rd_take 3 48 (.pointer (some ⟨wr.heap.size, 33, none⟩)) rfl rfl (by kernel_rfl) (by kernel_rfl) (by kernel_rfl) (fun _ _ _ h => h) (by kernel_rfl) (fun v _ => by kernel_rfl) hS ?_
                refine rd_take 4 49 (.slice y.a y.n y.c) rfl rfl (by kernel_rfl) (by kernel_rfl) (by kernel_rfl) (fun _ _ _ h => h) (by kernel_rfl) (fun v' hv => rd_loadB rfl (by kernel_rfl) hv.1.c33) hS ?_
                refine rd_take 6 51 (.agg y.cells.toArray) rfl rfl (by kernel_rfl) (by kernel_rfl) (by kernel_rfl) (fun _ _ _ h => h) (by kernel_rfl) (fun v' hv => rd_loadRr rfl (by kernel_rfl) HL.out hv.1.all) hS ?_
                refine wpAnyH_ready (rs := [5]) (by kernel_rfl) (by simp) ?_
                refine rd_call 5 50 rfl rfl (by kernel_rfl) 10 #[.slice y.a y.n y.c] (by kernel_rfl) (R := fun val w' => Below v5.drew.heap.size v5.drew w' ∧ ∃ z : RV, val = .agg z.cells.toArray ∧ RefAt (Own v5.drew.heap.size w') w' z ⟨1, z32, r.i⟩) ((refer_short y.a y.n y.c r.i v5.drew (HYR.out.2.2.2.2.1.at (below_go HBW.out hS.2.2.2)) HN32.out).mono (fun e w' h => by
                    obtain ⟨⟨z, e1, hz⟩, hb⟩ := h
                    exact ⟨_, e1, hb, z, rfl, hz⟩)) (fun val w' h => HSC.out w' h.1) ?_ AllReadyH.nil
                rintro val u1 ⟨hb1, z, rfl, hz⟩
                have hS1 := HSC.out u1 hb1
                refine wpAnyH_ready (rs := [7]) (by kernel_rfl) (by simp) ?_
                refine rd_call 7 52 rfl rfl (by kernel_rfl) 9 #[.agg z.cells.toArray, .agg y.cells.toArray] (by kernel_rfl) (R := fun val w' => val = .bool true ∧ Below u1.heap.size u1 w') ((sameRef_any _ K z y ⟨1, z32, r.i⟩ r u1 hz (HYR.out.go (Keep.below (below_go HBW.out hS1.2.2.2)))).mono (fun e w' h => ⟨_, h.1, by rw [reqP_iff.2 HRE.out.symm], h.2⟩)) (fun val w' h => ⟨hS1.1.go h.2, hS1.2.1.go h.2, hS1.2.2.1.go h.2, below_go hS1.2.2.2 h.2⟩) ?_ AllReadyH.nil
                rintro val u2 ⟨rfl, hb2⟩
                have hS2 : RBx wr.heap.size u2 y ∧ NBx w4.heap.size u2 z' ∧ NBx w.heap.size u2 x ∧ Below w2.heap.size w2 u2 := ⟨hS1.1.go hb2, hS1.2.1.go hb2, hS1.2.2.1.go hb2, below_go hS1.2.2.2 hb2⟩
                refine rd_take 8 53 (.bool false) rfl rfl (by kernel_rfl) (by kernel_rfl) (by kernel_rfl) (fun _ _ _ h => h) (by kernel_rfl) (fun v _ => by kernel_rfl) hS2 ?_
                refine rd_take 9 54 (.bool false) rfl rfl (by kernel_rfl) (by kernel_rfl) (by kernel_rfl) (fun _ _ _ h => h) (by kernel_rfl) (fun v _ => by kernel_rfl) hS2 ?_
                refine rd_take 10 55 (.bool false) rfl rfl (by kernel_rfl) (by kernel_rfl) (by kernel_rfl) (fun _ _ _ h => h) (by kernel_rfl) (fun v _ => by kernel_rfl) hS2 ?_
                refine rd_take 11 56 (.slice a1 m1 c1) rfl rfl (by kernel_rfl) (by kernel_rfl) (by kernel_rfl) (fun _ _ _ h => h) (by kernel_rfl) (fun v _ => by kernel_rfl) hS2 ?_
                refine rd_take 12 57 (.int .i64 m1) rfl rfl (by kernel_rfl) (by kernel_rfl) (by kernel_rfl) (fun _ _ _ h => h) (by kernel_rfl) (fun v _ => by kernel_rfl) hS2 ?_
                refine rd_take 13 58 (.bool true) rfl rfl (by kernel_rfl) (by kernel_rfl) (by kernel_rfl) (fun _ _ _ h => h) (by kernel_rfl) (fun v _ => rd_lss rfl (by kernel_rfl) (by kernel_rfl) HLB.out) hS2 ?_
                refine rd_take 14 59 (.bool true) rfl rfl (by kernel_rfl) (by kernel_rfl) (by kernel_rfl) (fun _ _ _ h => h) (by kernel_rfl) (fun v _ => by kernel_rfl) hS2 ?_
                refine rd_take 15 60 (.pointer (some ⟨w.heap.size, 0, none⟩)) rfl rfl (by kernel_rfl) (by kernel_rfl) (by kernel_rfl) (fun _ _ _ h => h) (by kernel_rfl) (fun v _ => by kernel_rfl) hS2 ?_
                refine rd_take 16 61 (.int .i64 x.k) rfl rfl (by kernel_rfl) (by kernel_rfl) (by kernel_rfl) (fun _ _ _ h => h) (by kernel_rfl) (fun v' hv => rd_loadi rfl (by kernel_rfl) hv.2.2.1.c0) hS2 ?_
                refine rd_take 17 62 (.bool true) rfl rfl (by kernel_rfl) (by kernel_rfl) (by kernel_rfl) (fun _ _ _ h => h) (by kernel_rfl) (fun v _ => rd_eqi rfl (by kernel_rfl) (by kernel_rfl) HK3.out) hS2 ?_
                refine rd_take 18 63 (.bool true) rfl rfl (by kernel_rfl) (by kernel_rfl) (by kernel_rfl) (fun _ _ _ h => h) (by kernel_rfl) (fun v _ => by kernel_rfl) hS2 ?_
                refine rd_take 19 64 (.bool true) rfl rfl (by kernel_rfl) (by kernel_rfl) (by kernel_rfl) (fun _ _ _ h => h) (by kernel_rfl) (fun v _ => by kernel_rfl) hS2 ?_
                refine rd_take 20 65 (.pointer (some ⟨w4.heap.size, 0, none⟩)) rfl rfl (by kernel_rfl) (by kernel_rfl) (by kernel_rfl) (fun _ _ _ h => h) (by kernel_rfl) (fun v _ => by kernel_rfl) hS2 ?_
                refine rd_take 21 66 (.int .i64 z'.k) rfl rfl (by kernel_rfl) (by kernel_rfl) (by kernel_rfl) (fun _ _ _ h => h) (by kernel_rfl) (fun v' hv => rd_loadi rfl (by kernel_rfl) hv.2.1.c0) hS2 ?_
                refine rd_take 22 67 (.bool false) rfl rfl (by kernel_rfl) (by kernel_rfl) (by kernel_rfl) (fun _ _ _ h => h) (by kernel_rfl) (fun v _ => rd_eqi rfl (by kernel_rfl) (by kernel_rfl) HM3.out) hS2 ?_
                refine rd_take 23 68 (.bool false) rfl rfl (by kernel_rfl) (by kernel_rfl) (by kernel_rfl) (fun _ _ _ h => h) (by kernel_rfl) (fun v _ => by kernel_rfl) hS2 ?_
                refine rd_take 24 69 (.bool false) rfl rfl (by kernel_rfl) (by kernel_rfl) (by kernel_rfl) (fun _ _ _ h => h) (by kernel_rfl) (fun v _ => by kernel_rfl) hS2 ?_
                refine wpAnyH_done (by kernel_rfl) ?_ _
                refine hkk _ _ ?_
                have HS2 := Hid.mk hS2
                clear hS2 hb2 hS1 hb1 hS hkk hz
                go_frame
                go_wp2_with fail
                exact ⟨⟨j + 1, by omega, by simp, HS2.out.2.2.1, HS2.out.2.2.2⟩, by simp [intOf]; omega⟩
              · have HK3 := Hid.mk (show (x.k == 3) = false from by simp [hn3])
                refine wp_region_held_drew (S := fun v' => RBx wr.heap.size v' y ∧ NBx w4.heap.size v' z' ∧ NBx w.heap.size v' x ∧ Below w2.heap.size w2 v') (by kernel_rfl) ⟨⟨HS5.out.1.row, HS5.out.1.l⟩, ⟨HS5.out.2.1.row, HS5.out.2.1.l⟩, ⟨HS5.out.2.2.1.row, HS5.out.2.2.1.l⟩, HS5.out.2.2.2.drew⟩ (fun hS => ?_)
                refine rd_take 0 45 (.int .i64 0) rfl rfl (by kernel_rfl) (by kernel_rfl) (by kernel_rfl) (fun _ _ _ h => h) (by kernel_rfl) (fun v _ => by kernel_rfl) hS ?_
                refine rd_take 1 46 (.bool false) rfl rfl (by kernel_rfl) (by kernel_rfl) (by kernel_rfl) (fun _ _ _ h => h) (by kernel_rfl) (fun v _ => by kernel_rfl) hS ?_
                refine rd_take 2 47 (.bool false) rfl rfl (by kernel_rfl) (by kernel_rfl) (by kernel_rfl) (fun _ _ _ h => h) (by kernel_rfl) (fun v _ => by kernel_rfl) hS ?_
                refine rd_take 3 48 (.pointer (some ⟨wr.heap.size, 33, none⟩)) rfl rfl (by kernel_rfl) (by kernel_rfl) (by kernel_rfl) (fun _ _ _ h => h) (by kernel_rfl) (fun v _ => by kernel_rfl) hS ?_
                refine rd_take 4 49 (.slice y.a y.n y.c) rfl rfl (by kernel_rfl) (by kernel_rfl) (by kernel_rfl) (fun _ _ _ h => h) (by kernel_rfl) (fun v' hv => rd_loadB rfl (by kernel_rfl) hv.1.c33) hS ?_
                refine rd_take 6 51 (.agg y.cells.toArray) rfl rfl (by kernel_rfl) (by kernel_rfl) (by kernel_rfl) (fun _ _ _ h => h) (by kernel_rfl) (fun v' hv => rd_loadRr rfl (by kernel_rfl) HL.out hv.1.all) hS ?_
                refine wpAnyH_ready (rs := [5]) (by kernel_rfl) (by simp) ?_
                refine rd_call 5 50 rfl rfl (by kernel_rfl) 10 #[.slice y.a y.n y.c] (by kernel_rfl) (R := fun val w' => Below v5.drew.heap.size v5.drew w' ∧ ∃ z : RV, val = .agg z.cells.toArray ∧ RefAt (Own v5.drew.heap.size w') w' z ⟨1, z32, r.i⟩) ((refer_short y.a y.n y.c r.i v5.drew (HYR.out.2.2.2.2.1.at (below_go HBW.out hS.2.2.2)) HN32.out).mono (fun e w' h => by
                    obtain ⟨⟨z, e1, hz⟩, hb⟩ := h
                    exact ⟨_, e1, hb, z, rfl, hz⟩)) (fun val w' h => HSC.out w' h.1) ?_ AllReadyH.nil
                rintro val u1 ⟨hb1, z, rfl, hz⟩
                have hS1 := HSC.out u1 hb1
                refine wpAnyH_ready (rs := [7]) (by kernel_rfl) (by simp) ?_
                refine rd_call 7 52 rfl rfl (by kernel_rfl) 9 #[.agg z.cells.toArray, .agg y.cells.toArray] (by kernel_rfl) (R := fun val w' => val = .bool true ∧ Below u1.heap.size u1 w') ((sameRef_any _ K z y ⟨1, z32, r.i⟩ r u1 hz (HYR.out.go (Keep.below (below_go HBW.out hS1.2.2.2)))).mono (fun e w' h => ⟨_, h.1, by rw [reqP_iff.2 HRE.out.symm], h.2⟩)) (fun val w' h => ⟨hS1.1.go h.2, hS1.2.1.go h.2, hS1.2.2.1.go h.2, below_go hS1.2.2.2 h.2⟩) ?_ AllReadyH.nil
                rintro val u2 ⟨rfl, hb2⟩
                have hS2 : RBx wr.heap.size u2 y ∧ NBx w4.heap.size u2 z' ∧ NBx w.heap.size u2 x ∧ Below w2.heap.size w2 u2 := ⟨hS1.1.go hb2, hS1.2.1.go hb2, hS1.2.2.1.go hb2, below_go hS1.2.2.2 hb2⟩
                refine rd_take 8 53 (.bool false) rfl rfl (by kernel_rfl) (by kernel_rfl) (by kernel_rfl) (fun _ _ _ h => h) (by kernel_rfl) (fun v _ => by kernel_rfl) hS2 ?_
                refine rd_take 9 54 (.bool false) rfl rfl (by kernel_rfl) (by kernel_rfl) (by kernel_rfl) (fun _ _ _ h => h) (by kernel_rfl) (fun v _ => by kernel_rfl) hS2 ?_
                refine rd_take 10 55 (.bool false) rfl rfl (by kernel_rfl) (by kernel_rfl) (by kernel_rfl) (fun _ _ _ h => h) (by kernel_rfl) (fun v _ => by kernel_rfl) hS2 ?_
                refine rd_take 11 56 (.slice a1 m1 c1) rfl rfl (by kernel_rfl) (by kernel_rfl) (by kernel_rfl) (fun _ _ _ h => h) (by kernel_rfl) (fun v _ => by kernel_rfl) hS2 ?_
                refine rd_take 12 57 (.int .i64 m1) rfl rfl (by kernel_rfl) (by kernel_rfl) (by kernel_rfl) (fun _ _ _ h => h) (by kernel_rfl) (fun v _ => by kernel_rfl) hS2 ?_
                refine rd_take 13 58 (.bool true) rfl rfl (by kernel_rfl) (by kernel_rfl) (by kernel_rfl) (fun _ _ _ h => h) (by kernel_rfl) (fun v _ => rd_lss rfl (by kernel_rfl) (by kernel_rfl) HLB.out) hS2 ?_
                refine rd_take 14 59 (.bool true) rfl rfl (by kernel_rfl) (by kernel_rfl) (by kernel_rfl) (fun _ _ _ h => h) (by kernel_rfl) (fun v _ => by kernel_rfl) hS2 ?_
                refine rd_take 15 60 (.pointer (some ⟨w.heap.size, 0, none⟩)) rfl rfl (by kernel_rfl) (by kernel_rfl) (by kernel_rfl) (fun _ _ _ h => h) (by kernel_rfl) (fun v _ => by kernel_rfl) hS2 ?_
                refine rd_take 16 61 (.int .i64 x.k) rfl rfl (by kernel_rfl) (by kernel_rfl) (by kernel_rfl) (fun _ _ _ h => h) (by kernel_rfl) (fun v' hv => rd_loadi rfl (by kernel_rfl) hv.2.2.1.c0) hS2 ?_
                refine rd_take 17 62 (.bool false) rfl rfl (by kernel_rfl) (by kernel_rfl) (by kernel_rfl) (fun _ _ _ h => h) (by kernel_rfl) (fun v _ => rd_eqi rfl (by kernel_rfl) (by kernel_rfl) HK3.out) hS2 ?_
                refine rd_take 18 63 (.bool false) rfl rfl (by kernel_rfl) (by kernel_rfl) (by kernel_rfl) (fun _ _ _ h => h) (by kernel_rfl) (fun v _ => by kernel_rfl) hS2 ?_
                refine rd_take 19 64 (.bool false) rfl rfl (by kernel_rfl) (by kernel_rfl) (by kernel_rfl) (fun _ _ _ h => h) (by kernel_rfl) (fun v _ => by kernel_rfl) hS2 ?_
                refine rd_skip 20 65 rfl rfl (by kernel_rfl) (by kernel_rfl) (by kernel_rfl) (fun _ _ _ h => h) (by kernel_rfl) hS2 ?_
                refine rd_skip 21 66 rfl rfl (by kernel_rfl) (by kernel_rfl) (by kernel_rfl) (fun _ _ _ h => h) (by kernel_rfl) hS2 ?_
                refine rd_skip 22 67 rfl rfl (by kernel_rfl) (by kernel_rfl) (by kernel_rfl) (fun _ _ _ h => h) (by kernel_rfl) hS2 ?_
                refine rd_take 23 68 (.bool false) rfl rfl (by kernel_rfl) (by kernel_rfl) (by kernel_rfl) (fun _ _ _ h => h) (by kernel_rfl) (fun v _ => by kernel_rfl) hS2 ?_
                refine rd_take 24 69 (.bool false) rfl rfl (by kernel_rfl) (by kernel_rfl) (by kernel_rfl) (fun _ _ _ h => h) (by kernel_rfl) (fun v _ => by kernel_rfl) hS2 ?_
                refine wpAnyH_done (by kernel_rfl) ?_ _
                refine hkk _ _ ?_
                have HS2 := Hid.mk hS2
                clear hS2 hb2 hS1 hb1 hS hkk hz
                go_frame
                go_wp2_with fail
                exact ⟨⟨j + 1, by omega, by simp, HS2.out.2.2.1, HS2.out.2.2.2⟩, by simp [intOf]; omega⟩
            · have HLB := Hid.mk (decide_eq_false hlb)
              refine wp_region_held_drew (S := fun v' => RBx wr.heap.size v' y ∧ NBx w4.heap.size v' z' ∧ NBx w.heap.size v' x ∧ Below w2.heap.size w2 v') (by kernel_rfl) ⟨⟨HS5.out.1.row, HS5.out.1.l⟩, ⟨HS5.out.2.1.row, HS5.out.2.1.l⟩, ⟨HS5.out.2.2.1.row, HS5.out.2.2.1.l⟩, HS5.out.2.2.2.drew⟩ (fun hS => ?_)
              refine rd_take 0 45 (.int .i64 0) rfl rfl (by kernel_rfl) (by kernel_rfl) (by kernel_rfl) (fun _ _ _ h => h) (by kernel_rfl) (fun v _ => by kernel_rfl) hS ?_
              refine rd_take 1 46 (.bool false) rfl rfl (by kernel_rfl) (by kernel_rfl) (by kernel_rfl) (fun _ _ _ h => h) (by kernel_rfl) (fun v _ => by kernel_rfl) hS ?_
              refine rd_take 2 47 (.bool false) rfl rfl (by kernel_rfl) (by kernel_rfl) (by kernel_rfl) (fun _ _ _ h => h) (by kernel_rfl) (fun v _ => by kernel_rfl) hS ?_
              refine rd_take 3 48 (.pointer (some ⟨wr.heap.size, 33, none⟩)) rfl rfl (by kernel_rfl) (by kernel_rfl) (by kernel_rfl) (fun _ _ _ h => h) (by kernel_rfl) (fun v _ => by kernel_rfl) hS ?_
              refine rd_take 4 49 (.slice y.a y.n y.c) rfl rfl (by kernel_rfl) (by kernel_rfl) (by kernel_rfl) (fun _ _ _ h => h) (by kernel_rfl) (fun v' hv => rd_loadB rfl (by kernel_rfl) hv.1.c33) hS ?_
              refine rd_take 6 51 (.agg y.cells.toArray) rfl rfl (by kernel_rfl) (by kernel_rfl) (by kernel_rfl) (fun _ _ _ h => h) (by kernel_rfl) (fun v' hv => rd_loadRr rfl (by kernel_rfl) HL.out hv.1.all) hS ?_
              refine wpAnyH_ready (rs := [5]) (by kernel_rfl) (by simp) ?_
              refine rd_call 5 50 rfl rfl (by kernel_rfl) 10 #[.slice y.a y.n y.c] (by kernel_rfl) (R := fun val w' => Below v5.drew.heap.size v5.drew w' ∧ ∃ z : RV, val = .agg z.cells.toArray ∧ RefAt (Own v5.drew.heap.size w') w' z ⟨1, z32, r.i⟩) ((refer_short y.a y.n y.c r.i v5.drew (HYR.out.2.2.2.2.1.at (below_go HBW.out hS.2.2.2)) HN32.out).mono (fun e w' h => by
                  obtain ⟨⟨z, e1, hz⟩, hb⟩ := h
                  exact ⟨_, e1, hb, z, rfl, hz⟩)) (fun val w' h => HSC.out w' h.1) ?_ AllReadyH.nil
              rintro val u1 ⟨hb1, z, rfl, hz⟩
              have hS1 := HSC.out u1 hb1
              refine wpAnyH_ready (rs := [7]) (by kernel_rfl) (by simp) ?_
              refine rd_call 7 52 rfl rfl (by kernel_rfl) 9 #[.agg z.cells.toArray, .agg y.cells.toArray] (by kernel_rfl) (R := fun val w' => val = .bool true ∧ Below u1.heap.size u1 w') ((sameRef_any _ K z y ⟨1, z32, r.i⟩ r u1 hz (HYR.out.go (Keep.below (below_go HBW.out hS1.2.2.2)))).mono (fun e w' h => ⟨_, h.1, by rw [reqP_iff.2 HRE.out.symm], h.2⟩)) (fun val w' h => ⟨hS1.1.go h.2, hS1.2.1.go h.2, hS1.2.2.1.go h.2, below_go hS1.2.2.2 h.2⟩) ?_ AllReadyH.nil
              rintro val u2 ⟨rfl, hb2⟩
              have hS2 : RBx wr.heap.size u2 y ∧ NBx w4.heap.size u2 z' ∧ NBx w.heap.size u2 x ∧ Below w2.heap.size w2 u2 := ⟨hS1.1.go hb2, hS1.2.1.go hb2, hS1.2.2.1.go hb2, below_go hS1.2.2.2 hb2⟩
              refine rd_take 8 53 (.bool false) rfl rfl (by kernel_rfl) (by kernel_rfl) (by kernel_rfl) (fun _ _ _ h => h) (by kernel_rfl) (fun v _ => by kernel_rfl) hS2 ?_
              refine rd_take 9 54 (.bool false) rfl rfl (by kernel_rfl) (by kernel_rfl) (by kernel_rfl) (fun _ _ _ h => h) (by kernel_rfl) (fun v _ => by kernel_rfl) hS2 ?_
              refine rd_take 10 55 (.bool false) rfl rfl (by kernel_rfl) (by kernel_rfl) (by kernel_rfl) (fun _ _ _ h => h) (by kernel_rfl) (fun v _ => by kernel_rfl) hS2 ?_
              refine rd_take 11 56 (.slice a1 m1 c1) rfl rfl (by kernel_rfl) (by kernel_rfl) (by kernel_rfl) (fun _ _ _ h => h) (by kernel_rfl) (fun v _ => by kernel_rfl) hS2 ?_
              refine rd_take 12 57 (.int .i64 m1) rfl rfl (by kernel_rfl) (by kernel_rfl) (by kernel_rfl) (fun _ _ _ h => h) (by kernel_rfl) (fun v _ => by kernel_rfl) hS2 ?_
              refine rd_take 13 58 (.bool false) rfl rfl (by kernel_rfl) (by kernel_rfl) (by kernel_rfl) (fun _ _ _ h => h) (by kernel_rfl) (fun v _ => rd_lss rfl (by kernel_rfl) (by kernel_rfl) HLB.out) hS2 ?_
              refine rd_take 14 59 (.bool false) rfl rfl (by kernel_rfl) (by kernel_rfl) (by kernel_rfl) (fun _ _ _ h => h) (by kernel_rfl) (fun v _ => by kernel_rfl) hS2 ?_
              refine rd_skip 15 60 rfl rfl (by kernel_rfl) (by kernel_rfl) (by kernel_rfl) (fun _ _ _ h => h) (by kernel_rfl) hS2 ?_
              refine rd_skip 16 61 rfl rfl (by kernel_rfl) (by kernel_rfl) (by kernel_rfl) (fun _ _ _ h => h) (by kernel_rfl) hS2 ?_
              refine rd_skip 17 62 rfl rfl (by kernel_rfl) (by kernel_rfl) (by kernel_rfl) (fun _ _ _ h => h) (by kernel_rfl) hS2 ?_
              refine rd_take 18 63 (.bool false) rfl rfl (by kernel_rfl) (by kernel_rfl) (by kernel_rfl) (fun _ _ _ h => h) (by kernel_rfl) (fun v _ => by kernel_rfl) hS2 ?_
              refine rd_take 19 64 (.bool false) rfl rfl (by kernel_rfl) (by kernel_rfl) (by kernel_rfl) (fun _ _ _ h => h) (by kernel_rfl) (fun v _ => by kernel_rfl) hS2 ?_
              refine rd_skip 20 65 rfl rfl (by kernel_rfl) (by kernel_rfl) (by kernel_rfl) (fun _ _ _ h => h) (by kernel_rfl) hS2 ?_
              refine rd_skip 21 66 rfl rfl (by kernel_rfl) (by kernel_rfl) (by kernel_rfl) (fun _ _ _ h => h) (by kernel_rfl) hS2 ?_
              refine rd_skip 22 67 rfl rfl (by kernel_rfl) (by kernel_rfl) (by kernel_rfl) (fun _ _ _ h => h) (by kernel_rfl) hS2 ?_
              refine rd_take 23 68 (.bool false) rfl rfl (by kernel_rfl) (by kernel_rfl) (by kernel_rfl) (fun _ _ _ h => h) (by kernel_rfl) (fun v _ => by kernel_rfl) hS2 ?_
              refine rd_take 24 69 (.bool false) rfl rfl (by kernel_rfl) (by kernel_rfl) (by kernel_rfl) (fun _ _ _ h => h) (by kernel_rfl) (fun v _ => by kernel_rfl) hS2 ?_
              refine wpAnyH_done (by kernel_rfl) ?_ _
              refine hkk _ _ ?_
              have HS2 := Hid.mk hS2
              clear hS2 hb2 hS1 hb1 hS hkk hz
              go_frame
              go_wp2_with fail
              exact ⟨⟨j + 1, by omega, by simp, HS2.out.2.2.1, HS2.out.2.2.2⟩, by simp [intOf]; omega⟩
          · have hk1b : (y.k != 1) = true := by simp [hk1]
            go_wp2_with fail
            exact ⟨⟨j + 1, by omega, by simp, HX3.out, HBL3.out⟩, by simp [intOf]; omega⟩
        · have hji : ¬ (j : Int) < tot := by omega
          go_wp2_with fail
          refine (alive_any wr).mono ?_
          rintro e w3 ⟨rfl, hb3⟩
          have HBF := Hid.mk (below_go (below_go HB2.out HBR.out) hb3)
          clear hb3
          go_wp2_with fail
          go_ret
          exact ⟨rfl, HBF.out⟩
end Go.Proofs.Ytamibjgahcpkcab
/- How a slice of bytes that is handed in reads as data: nil, or a row of bytes that takes no more than the form's own reach. -/
namespace Go.Proofs.Ytamibjgahcpkcab
open Go.ChangeShapes Go.WideShapes Go.ChangeAt Go.RowKit
open Go.ChangeMaps (open_string shut_string)
set_option linter.unusedVariables false
set_option maxRecDepth 100000
theorem own : ownKnob Try.prog.godebug = none := by kernel_rfl
theorem laidOut : laidOutB Try.prog = true := by kernel_rfl
theorem cells5 : Try.prog.cellsOf 5 = 1 := by kernel_rfl
theorem bytes5 : Try.prog.bytesOf 5 = 1 := by kernel_rfl
/-- A slice of bytes that came in, opened: its bytes; it takes no more than the reach. -/
theorem open_bytes {H : Type} {enc : TypeId × Value → H} {w : World} {base b0 : Nat} {r : Reach} {held : Bool} {v : Value} {d : DataW H} {p : List MemPlace}
    (hv : Value.okWide Try.prog w r b0 22 v) (h : DataW.Trod enc Try.prog w base (fun _ => true) held 22 v d p)
    (hsz : ∀ elems spare, d = .slice elems spare → (elems.length + spare.length) * Try.prog.bytesOf 5 ≤ reachBytes) :
    ∃ a len cap bs, v = .slice a len cap ∧ In0 w a len cap bs ∧ (a = none → len = 0 ∧ cap = 0) ∧ bs.length = len ∧ (∀ x ∈ bs, 0 ≤ x ∧ x < 256) ∧ len ≤ 140737488351232 := by
  obtain ⟨a, len, cap, rfl⟩ := okWide_slice Try.underlying22 hv
  obtain ⟨fuel, hf⟩ := h
  rcases open_ints Try.underlying22 Try.underlying5 cells5 hf with ⟨hcs, _⟩ | ⟨x, l, c, zs, hcs, _, hl, hm, hz, hx, hcell, hwz⟩
  · simp [Value.cells] at hcs
    obtain ⟨rfl, rfl, rfl⟩ := hcs
    exact ⟨none, 0, 0, [], rfl, .inl ⟨rfl, rfl⟩, fun _ => ⟨rfl, rfl⟩, rfl, (fun x hx => by cases hx), by omega⟩
  · simp [Value.cells] at hcs
    obtain ⟨rfl, rfl, rfl⟩ := hcs
    have hz2 : zs.length = cap := by simpa using hz
    have hsz2 := hsz _ _ (Prod.mk.inj hx).1
    rw [bytes5] at hsz2
    simp only [lits, List.length_map, List.length_take, List.length_drop, reachBytes] at hsz2
    have hlen : (zs.take len).length = len := by rw [List.length_take]; omega
    have hbd : ∀ n ∈ zs.take len, 0 ≤ n ∧ n < 256 := fun n hn => by
      have := bounds_u8 (hwz n (List.mem_of_mem_take hn))
      omega
    refine ⟨some x, len, cap, zs.take len, rfl, ?_, (fun h => by cases h), hlen, hbd, by omega⟩
    by_cases h0 : len = 0
    · subst h0
      exact .inl ⟨rfl, by simp⟩
    · obtain ⟨b, off, spot⟩ := x
      have hc := hcell 0 (by omega)
      have hspot : spot = none := by simpa [Addr.add] using World.cell?_spot hc
      subst hspot
      refine .inr ⟨b, off, rfl, hlen, by omega, hl, hm, fun j hj => ?_⟩
      rw [hlen] at hj
      have := hcell j (by omega)
      rw [addr_add] at this
      rw [this, List.getD, List.getD, List.getElem?_take_of_lt hj]
theorem open_ag {H : Type} {enc : TypeId × Value → H} {w : World} {base b0 : Nat} {r : Reach} {held : Bool} {v : Value} {d : DataW H} {p : List MemPlace}
    (hv : Value.okWide Try.prog w r b0 22 v) (h : DataW.Trod enc Try.prog w base (fun _ => true) held 22 v d p)
    (hsz : ∀ elems spare, d = .slice elems spare → (elems.length + spare.length) * Try.prog.bytesOf 5 ≤ reachBytes) :
    ∃ a len cap bs, v = .slice a len cap ∧ Ag w a len cap bs ∧ len ≤ 140737488351232 := by
  obtain ⟨a, len, cap, bs, h1, h2, h3, h4, h5, h6⟩ := open_bytes hv h hsz
  exact ⟨a, len, cap, bs, h1, ⟨h2, h3, h4, h5⟩, h6⟩
end Go.Proofs.Ytamibjgahcpkcab

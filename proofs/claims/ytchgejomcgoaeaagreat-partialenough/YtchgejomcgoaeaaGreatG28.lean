/- That branchNode answers the branch of the kids and the value. -/
import Derived.Test.YtchgejomcgoaeaaGreatG27
import Derived.Test.YtchgejomcgoaeaaGreatG08
import Derived.Test.YtchgejomcgoaeaaGreatG14
set_option linter.unusedVariables false
set_option maxRecDepth 100000
namespace Go.Proofs.YtchgejomcgoaeaaGreat
open Go.RowKit
variable {w w' : World}
theorem Zqg {base : Nat} {ys : List RV} {rs : List PR} (h : RefsAt (Own base w) w ys rs) (hb : Below w.heap.size w w') : RefsAt (Own base w') w' ys rs := h.go (Keep.own hb (Nat.le_refl _))
set_option maxHeartbeats 8000000 in
theorem Zhj (P : Nat → Prop) (ts : List T) (a : Option Addr) (c : Nat) (u : T) (y : V) (w : World) (h16 : ts.length = 16) (hall : LiesAll w ts a 0) (hc : 16 ≤ c ∧ c ≤ maxLen) (hy : LiesP P w u y) (hb : ∀ g, w.heap.size ≤ g → P g) :
    Calls Tryz.prog 85 #[.slice a 16 c, .agg #[.bool y.l, .slice y.ba y.bn y.bc, .slice y.ia y.m y.ic]] w (NPost P w (branchP ts u)) := by
  obtain ⟨l2, bs2, its2⟩ := u
  obtain ⟨⟨hl2, -⟩, -⟩ := liesP_eq.1 hy
  subst hl2
  obtain ⟨hc1, hc2⟩ := hc
  unfold maxLen at hc2
  have HY := Hid.mk hy
  have HBASE := Hid.mk hb
  have H16 := Hid.mk h16
  have HALL := Hid.mk hall
  obtain ⟨res, hres⟩ : ∃ res, branchP ts (.mk y.l bs2 its2) = res := ⟨_, rfl⟩
  rw [hres]
  have hres : (match kidsP ts with
    | none => none
    | some ks => if y.l = true then none else some (⟨3, [], bs2, r0, ks⟩ : PN)) = res := hres
  have HRES := Hid.mk hres
  have HPB0 := Hid.mk (Zt2 w y)
  clear hres hy hb h16 hall
  go_enter Tryz.func85, Tryz.ntmps85
  go_upto_region 1 with fail
  refine gen_w (p := fun v => Code.wp _ _ _ _ v) (q := fun v => Pb w v y) HPB0.out ?_
  clear HPB0
  intro v P0
  have HPB := Hid.mk P0
  clear P0
  have HSZ := Hid.mk HPB.out.sz
  go_cut [6] from 6 to 14 (fun s6 u => ∃ gk gn, s6 = .pointer (some ⟨gn, 0, none⟩) ∧ Bk w u y gk gn (List.replicate 16 rz))
  case first =>
    have HS1 := Hid.mk (show (v.drew.alloc (.cells (flatR (List.replicate 16 rz)).toArray 65)).heap.size = v.heap.size + 1 from by simp)
    have HS2 := Hid.mk (show (v.drew.alloc (.cells nz.cells.toArray 68)).heap.size = v.heap.size + 1 from by simp)
    have HROWA := Hid.mk (show ((v.drew.alloc (.cells (flatR (List.replicate 16 rz)).toArray 65)).alloc (.cells nz.cells.toArray 68)).heap[v.heap.size + 1]? = some (.cells nz.cells.toArray 68) from by rw [← HS1.out]; exact heap_alloc_new _ _)
    have HROWB := Hid.mk (show ((v.drew.alloc (.cells nz.cells.toArray 68)).alloc (.cells (flatR (List.replicate 16 rz)).toArray 65)).heap[v.heap.size]? = some (.cells nz.cells.toArray 68) from (heap_alloc_old _ _ (by rw [HS2.out]; omega)).trans (heap_alloc_new v.drew _))
    have HBKA := Hid.mk (show Bk w (((v.drew.alloc (.cells (flatR (List.replicate 16 rz)).toArray 65)).alloc (.cells nz.cells.toArray 68)).setRow (v.heap.size + 1) (nvB y v.heap.size).cells.toArray) y v.heap.size (v.heap.size + 1) (List.replicate 16 rz) from by
      have hs := HPB.out.sz
      have hbl : Below v.heap.size v ((v.drew.alloc (.cells (flatR (List.replicate 16 rz)).toArray 65)).alloc (.cells nz.cells.toArray 68)) := below_go (below_go (Below.refl _ _).drew (below_new _ _)) (below_new _ _)
      refine ⟨(setRow_other _ _ _ _ (by omega)).trans (Below.row hbl HPB.out.row), Zby (HPB.out.bx.go hbl) (by omega), ⟨setRow_heap _ _ _ _ _ _ HROWA.out, rfl⟩, (setRow_other _ _ _ _ (by omega)).trans ((heap_alloc_old _ _ (by rw [HS1.out]; omega)).trans (heap_alloc_new v.drew _)), Below.setRow (below_go HPB.out.bel hbl) (by omega) _, ⟨by omega, by omega⟩, ⟨by omega, by omega⟩, by omega, by simp [hs]⟩)
    have HBKB := Hid.mk (show Bk w (((v.drew.alloc (.cells nz.cells.toArray 68)).alloc (.cells (flatR (List.replicate 16 rz)).toArray 65)).setRow v.heap.size (nvB y (v.heap.size + 1)).cells.toArray) y (v.heap.size + 1) v.heap.size (List.replicate 16 rz) from by
      have hs := HPB.out.sz
      have hbl : Below v.heap.size v ((v.drew.alloc (.cells nz.cells.toArray 68)).alloc (.cells (flatR (List.replicate 16 rz)).toArray 65)) := below_go (below_go (Below.refl _ _).drew (below_new _ _)) (below_new _ _)
      refine ⟨(setRow_other _ _ _ _ (by omega)).trans (Below.row hbl HPB.out.row), Zby (HPB.out.bx.go hbl) (by omega), ⟨setRow_heap _ _ _ _ _ _ HROWB.out, rfl⟩, (setRow_other _ _ _ _ (by omega)).trans (by rw [← HS2.out]; exact heap_alloc_new _ _), Below.setRow (below_go HPB.out.bel hbl) (by omega) _, ⟨by omega, by omega⟩, ⟨by omega, by omega⟩, by omega, by simp [hs]⟩)
    refine wp_region_held_drew (S := fun v => B1 w.heap.size v y) (by kernel_rfl) ⟨HPB.out.bx.c0, HPB.out.bx.c1, HPB.out.bx.c2⟩ (fun hS => ?_)
    refine Zay 0 11 (.pointer (some ⟨w.heap.size, 1, none⟩)) rfl rfl (by kernel_rfl) (by kernel_rfl) (by kernel_rfl) (fun _ _ _ h => h) (by kernel_rfl) (fun v _ => by kernel_rfl) hS ?_
    refine Zay 1 12 (.slice y.ba y.bn y.bc) rfl rfl (by kernel_rfl) (by kernel_rfl) (by kernel_rfl) (fun _ _ _ h => h) (by kernel_rfl) (fun v hv => Zik rfl (by kernel_rfl) hv.c1) hS ?_
    refine wpAnyH_ready (rs := [2, 4]) (by kernel_rfl) (by simp) ?_
    refine Zhu 2 13 (.slice (some ⟨v.heap.size, 0, none⟩) 16 16) rfl rfl (by kernel_rfl) (Zjl rfl) (hS.alloc _) ?_ ?_
    · refine Zay 3 14 (.agg (nvB y v.heap.size).cells.toArray) rfl rfl (by kernel_rfl) (by kernel_rfl) (by kernel_rfl) (fun _ _ _ h => h) (by kernel_rfl) (fun v' _ => Zdz 68 _ rfl [(0, .int .i64 3), (2, .slice y.ba y.bn y.bc), (4, .slice (some ⟨v.heap.size, 0, none⟩) 16 16)] (by kernel_rfl) _ (Zmw _ _ _ _ _ _)) (hS.alloc _) ?_
      refine wpAnyH_ready (rs := [4]) (by kernel_rfl) (by simp) ?_
      refine Zhu 4 6 (.pointer (some ⟨v.heap.size + 1, 0, none⟩)) rfl rfl (by kernel_rfl) ((Zjn rfl).trans (by rw [HS1.out])) ((hS.alloc _).alloc _) ?_ AllReadyH.nil
      refine wpAnyH_ready (rs := [5]) (by kernel_rfl) (by simp) ?_
      refine Zdq 5 rfl rfl (by kernel_rfl) (Zck 68 _ _ rfl (v.heap.size + 1) (nvB y (v.heap.size)).cells.toArray (by kernel_rfl) (by kernel_rfl) 68 nz.cells.toArray HROWA.out (Zbj rfl) (Zbe rfl) (all_oneCell_toArray (NV.one _))) ?_ ?_ AllReadyH.nil
      · exact Zby ((hS.alloc _).alloc _) (by have := HPB.out.sz; omega)
      refine wpAnyH_done (by kernel_rfl) ?_ _
      go_frame
      go_wp2_with fail
      go_meet
      refine ⟨v.heap.size, v.heap.size + 1, rfl, ?_⟩
      exact HBKA.out
      
    refine Zhu 4 6 (.pointer (some ⟨v.heap.size, 0, none⟩)) rfl rfl (by kernel_rfl) (Zjn rfl) (hS.alloc _) ?_ AllReadyH.nil
    refine wpAnyH_ready (rs := [2]) (by kernel_rfl) (by simp) ?_
    refine Zhu 2 13 (.slice (some ⟨v.heap.size + 1, 0, none⟩) 16 16) rfl rfl (by kernel_rfl) ((Zjl rfl).trans (by rw [HS2.out])) ((hS.alloc _).alloc _) ?_ AllReadyH.nil
    refine Zay 3 14 (.agg (nvB y (v.heap.size + 1)).cells.toArray) rfl rfl (by kernel_rfl) (by kernel_rfl) (by kernel_rfl) (fun _ _ _ h => h) (by kernel_rfl) (fun v' _ => Zdz 68 _ rfl [(0, .int .i64 3), (2, .slice y.ba y.bn y.bc), (4, .slice (some ⟨v.heap.size + 1, 0, none⟩) 16 16)] (by kernel_rfl) _ (Zmw _ _ _ _ _ _)) ((hS.alloc _).alloc _) ?_
    refine wpAnyH_ready (rs := [5]) (by kernel_rfl) (by simp) ?_
    refine Zdq 5 rfl rfl (by kernel_rfl) (Zck 68 _ _ rfl (v.heap.size) (nvB y (v.heap.size + 1)).cells.toArray (by kernel_rfl) (by kernel_rfl) 68 nz.cells.toArray HROWB.out (Zbj rfl) (Zbe rfl) (all_oneCell_toArray (NV.one _))) ?_ ?_ AllReadyH.nil
    · exact Zby ((hS.alloc _).alloc _) (by have := HPB.out.sz; omega)
    refine wpAnyH_done (by kernel_rfl) ?_ _
    go_frame
    go_wp2_with fail
    go_meet
    refine ⟨v.heap.size + 1, v.heap.size, rfl, ?_⟩
    exact HBKB.out
    
  case rest =>
    obtain ⟨gk, gn, rfl, BK⟩ := hcut
    have HBK := Hid.mk BK
    clear BK HPB HSZ
    go_wp2_with fail
    go_loopw [17] (fun s17 u => ∃ j : Nat, j ≤ 16 ∧ s17 = .int .i64 j ∧ ∃ (ys : List RV) (rs : List PR), kidsP (ts.take j) = some rs ∧ ys.length = j ∧ Bk w u y gk gn (ys ++ List.replicate (16 - j) rz) ∧ RefsAt (Own (w.heap.size + 4) u) u ys rs) (fun s17 _ => 16 - (intOf s17).toNat)
    case atStart => exact ⟨0, by omega, rfl, [], [], rfl, rfl, HBK.out, rfl, (fun y hy => by cases hy), fun i y r h => by simp at h⟩
    case round =>
      obtain ⟨j, hj, rfl, ys, rs, hkp, hyl, BK, hra⟩ := hrel
      have HKP := Hid.mk hkp
      have HYL := Hid.mk hyl
      have HB := Hid.mk BK
      have HRA := Hid.mk hra
      clear hkp hyl BK hra HBK
      by_cases hlt : j < 16
      · have hji : (j : Int) < 16 := by omega
        obtain ⟨t, ht⟩ : ∃ t, ts[j]? = some t := ⟨_, List.getElem?_eq_getElem (by rw [H16.out]; exact hlt)⟩
        obtain ⟨g, off, x, A⟩ := Zd2 HALL.out j t ht
        rw [Nat.zero_add] at A
        have ha := A.ha
        subst ha
        have y0 := Zaw HB.out.bel A.c0
        have y1 := Zaw HB.out.bel A.c1
        have y2 := Zaw HB.out.bel A.c2
        have HA := Hid.mk A
        have HT := Hid.mk ht
        clear A ht
        go_upto_region 5 with fail
        refine gen_w (p := fun v => Code.wp _ _ _ _ v) (q := fun v => B1 wr.heap.size v x ∧ Below wr.heap.size wr v) ⟨Zfs wr x, below_new wr _⟩ ?_
        rintro v1 ⟨B, hb⟩
        have c0 := B.c0
        have c1 := B.c1
        have c2 := B.c2
        have HB1 := Hid.mk (HB.out.go hb)
        have HRA1 := Hid.mk (Zqg HRA.out hb)
        have HRO := Hid.mk (Zji t x v1 (Zcq (below_go HB.out.bel hb) t x HA.out.li))
        clear B hb y0 y1 y2 HB HRA
        go_wp2_with fail
        refine HRO.out.mono ?_
        intro e w2 hp
        obtain ⟨hb2, hp⟩ := hp
        have HB2 := Hid.mk (HB1.out.go hb2)
        have HRA2 := Hid.mk (Zqg HRA1.out hb2)
        have HV1 := Hid.mk HB1.out.sz
        cases hq : refOfP t with
        | none =>
          rw [hq] at hp
          obtain ⟨r', hl', rfl⟩ := hp
          have HL := Hid.mk hl'
          have hr := HRES.out
          rw [Zj1 (List.mem_of_getElem? HT.out) hq] at hr
          subst hr
          clear hb2 hq hl' c0 c1 c2 HRO
          go_upto_region 6 with (first | refine wpList_store_row rfl 65 _ _ rfl _ r'.cells.toArray rfl rfl 65 _ (heap_alloc_new _ _) (Zbw HL.out) (Zbq HL.out) (all_oneCell_toArray (RV.one _)) ?_)
          refine gen_w (p := fun v => Code.wp _ _ _ _ v) (q := fun v => Bk w v y gk gn (ys ++ List.replicate (16 - j) rz)) (HB2.out.go (Below.setRow (below_new w2 _) (Nat.le_refl _) _)) ?_
          intro v3 B3
          have HB3 := Hid.mk B3
          clear B3
          go_wp2_with (first | refine wpList_store_row rfl 68 _ _ rfl _ nz.cells.toArray rfl rfl 68 _ HB3.out.row (Zbj rfl) (Zbe rfl) (all_oneCell_toArray (NV.one _)) ?_)
          refine bodyPost_ret (Zbg Tryz.results85 _ _ (w.heap.size + 1) nz rfl rfl (setRow_heap _ _ _ _ _ _ HB3.out.row)) rfl ?_
          exact ⟨Below.setRow HB3.out.bel (by omega) _, nz, rfl, rfl⟩
        | some r =>
          rw [hq] at hp
          obtain ⟨r', rfl, hy'⟩ := hp
          have HL := Hid.mk hy'.len
          have HYR := Hid.mk hy'
          have HKS := Hid.mk (show kidsP (ts.take (j + 1)) = some (rs ++ [r]) from by rw [List.take_add_one, HT.out]; exact Zjz HKP.out hq)
          clear hb2 hq hy' c0 c1 c2 HRO
          go_upto_region 6 with (first | refine wpList_store_row rfl 65 _ _ rfl _ r'.cells.toArray rfl rfl 65 _ (heap_alloc_new _ _) (Zbw HL.out) (Zbq HL.out) (all_oneCell_toArray (RV.one _)) ?_)
          refine gen_w (p := fun v => Code.wp _ _ _ _ v) (q := fun v => RBx w2.heap.size v r' ∧ Bk w v y gk gn (ys ++ List.replicate (16 - j) rz) ∧ RefsAt (Own (w.heap.size + 4) v) v (ys ++ [r']) (rs ++ [r])) ⟨⟨setRow_heap _ _ _ _ _ _ (heap_alloc_new _ _), HL.out⟩, HB2.out.go (Below.setRow (below_new w2 _) (Nat.le_refl _) _), ?_⟩ ?_
          · have hbz := Below.setRow (below_new w2 (.cells rz.cells.toArray 65)) (Nat.le_refl _) r'.cells.toArray
            exact (Zqg HRA2.out hbz).snoc (HYR.out.go (Keep.own hbz HV1.out))
          rintro v3 ⟨BR, B3, R3⟩
          have c37 := B3.nb.c37
          have HBR := Hid.mk BR
          have HB3 := Hid.mk B3
          have HR3 := Hid.mk R3
          have HZR := Hid.mk (show List.replicate (16 - j) rz = rz :: List.replicate (16 - (j + 1)) rz from by rw [show 16 - j = (16 - (j + 1)) + 1 from by omega, List.replicate_succ])
          have hkr := B3.kr
          rw [HZR.out] at hkr
          have HKR := Hid.mk hkr
          have HPRE := Hid.mk (show ∀ x ∈ ys, x.d.length = 32 from fun x hx => R3.2.1 x (List.mem_append_left _ hx))
          have HFIT := Hid.mk (show j * 34 + 34 ≤ (flatR (ys ++ rz :: List.replicate (16 - (j + 1)) rz)).toArray.size from by
            rw [List.size_toArray, Zdw (fun x hx => by
              rcases List.mem_append.1 hx with hx | hx
              · exact HPRE.out x hx
              · rcases List.mem_cons.1 hx with rfl | hx
                · rfl
                · rw [(List.mem_replicate.1 hx).2]; rfl)]
            have := HYL.out
            simp; omega)
          clear BR B3 R3 hkr
          rw [show (nvB y gk).ka = some ⟨gk, 0, none⟩ from rfl, show (nvB y gk).kn = 16 from rfl, show (nvB y gk).kc = 16 from rfl] at c37
          go_upto_region 9 with (first | refine Zbf rfl _ rfl w2.heap.size 0 rfl r' HL.out HBR.out.all ?_ | refine Zkk rfl _ _ rfl gk (j * 34) r' HL.out rfl rfl 65 _ HKR.out HFIT.out ?_)
          refine gen_w (p := fun v => Code.wp _ _ _ _ v) (q := fun v => Bk w v y gk gn ((ys ++ [r']) ++ List.replicate (16 - (j + 1)) rz) ∧ RefsAt (Own (w.heap.size + 4) v) v (ys ++ [r']) (rs ++ [r])) ?_ ?_
          · have hf := Zta (pre := ys) (z := rz) (y := r') (post := List.replicate (16 - (j + 1)) rz) HPRE.out rfl
            rw [HYL.out] at hf
            rw [hf, show ys ++ r' :: List.replicate (16 - (j + 1)) rz = (ys ++ [r']) ++ List.replicate (16 - (j + 1)) rz from by simp]
            exact ⟨HB3.out.put, HR3.out.go (Keep.setRow (base := w.heap.size + 4) (base' := w.heap.size + 4) (g := gk) (by have := HB3.out.gk2; omega) (Nat.le_refl _))⟩
          rintro v4 ⟨B4, R4⟩
          have HB4 := Hid.mk B4
          have HR4 := Hid.mk R4
          clear B4 R4 c37
          go_wp2_with fail
          exact ⟨⟨j + 1, by omega, by simp, ys ++ [r'], rs ++ [r], HKS.out, by have := HYL.out; simp; omega, HB4.out, HR4.out⟩, by simp [intOf]; omega⟩
      · have hji : ¬ (j : Int) < 16 := by omega
        have hj16 : j = 16 := by omega
        subst hj16
        have hkp := HKP.out
        rw [List.take_of_length_le (by rw [H16.out]; omega)] at hkp
        have hr := HRES.out
        rw [hkp] at hr
        have hr : (if y.l = true then none else some (⟨3, [], bs2, r0, rs⟩ : PN)) = res := hr
        have HR := Hid.mk hr
        have hB := HB.out
        rw [show ys ++ List.replicate (16 - 16) rz = ys from by simp] at hB
        have HBF := Hid.mk hB
        clear hkp hr hB HB hj
        go_upto_region 10 with fail
        rename_i KK hkk
        refine wp_region_held_drew (S := fun v => NBx gn v (nvB y gk) ∧ B1 w.heap.size v y) (by kernel_rfl) ⟨⟨HBF.out.nb.row, HBF.out.nb.l⟩, HBF.out.bx.c0, HBF.out.bx.c1, HBF.out.bx.c2⟩ (fun hS => ?_)
        refine Zay 0 36 (.agg (nvB y gk).cells.toArray) rfl rfl (by kernel_rfl) (by kernel_rfl) (by kernel_rfl) (fun _ _ _ h => h) (by kernel_rfl) (fun v hv => Zo4 rfl (by kernel_rfl) hv.1) hS ?_
        refine Zay 1 37 (.pointer (some ⟨w.heap.size, 0, none⟩)) rfl rfl (by kernel_rfl) (by kernel_rfl) (by kernel_rfl) (fun _ _ _ h => h) (by kernel_rfl) (fun v _ => by kernel_rfl) hS ?_
        refine Zay 2 38 (.bool y.l) rfl rfl (by kernel_rfl) (by kernel_rfl) (by kernel_rfl) (fun _ _ _ h => h) (by kernel_rfl) (fun v hv => Zlw rfl (by kernel_rfl) hv.2.c0) hS ?_
        refine Zay 3 39 (.bool (!y.l)) rfl rfl (by kernel_rfl) (by kernel_rfl) (by kernel_rfl) (fun _ _ _ h => h) (by kernel_rfl) (fun v _ => by kernel_rfl) hS ?_
        refine wpAnyH_ready (rs := [4]) (by kernel_rfl) (by simp) ?_
        refine Zdq 4 rfl rfl (by kernel_rfl) (Zck 68 _ _ rfl (w.heap.size + 1) (nvB y gk).cells.toArray (by kernel_rfl) (by kernel_rfl) 68 nz.cells.toArray HBF.out.row (Zbj rfl) (Zbe rfl) (all_oneCell_toArray (NV.one _))) ?_ ?_ AllReadyH.nil
        · exact ⟨⟨(setRow_other _ _ _ _ (by have := HBF.out.gn2; omega)).trans hS.1.row, hS.1.l⟩, Zby hS.2 (by omega)⟩
        refine Zay 5 5 (.bool (!y.l)) rfl rfl (by kernel_rfl) (by kernel_rfl) (by kernel_rfl) (fun _ _ _ h => h) (by kernel_rfl) (fun v _ => by kernel_rfl) ⟨⟨(setRow_other _ _ _ _ (by have := HBF.out.gn2; omega)).trans hS.1.row, hS.1.l⟩, Zby hS.2 (by omega)⟩ ?_
        refine wpAnyH_done (by kernel_rfl) ?_ _
        refine hkk _ _ ?_
        refine Zd6 Tryz.results85 (fun h => h) (w.heap.size + 1) (nvB y gk) (.bool (!y.l)) rfl (by kernel_rfl) (by kernel_rfl) (by kernel_rfl) (setRow_heap _ _ _ _ _ _ HBF.out.row) ?_
        refine ⟨Below.setRow HBF.out.bel.drew (by omega) _, ?_⟩
        have hr := HR.out
        cases hyl : y.l with
        | true =>
          rw [hyl, if_pos rfl] at hr
          subst hr
          exact ⟨nvB y gk, rfl, rfl⟩
        | false =>
          rw [hyl, if_neg (by simp)] at hr
          subst hr
          have hkr : (wr.drew.setRow (w.heap.size + 1) (nvB y gk).cells.toArray).heap[gk]? = some (.cells (flatR ys).toArray 65) := (setRow_other _ _ _ _ (by have := HBF.out.gk2; omega)).trans HBF.out.kr
          have hk1 : Keep (Own (w.heap.size + 4) wr) (OwnP P (wr.drew.setRow (w.heap.size + 1) (nvB y gk).cells.toArray)) wr (wr.drew.setRow (w.heap.size + 1) (nvB y gk).cells.toArray) :=
            Keep.setRowP (v := wr.drew) (base := w.heap.size + 4) (by omega) (fun k hk => HBASE.out k (by omega))
          have hk2 : Keep (OwnP P w) (OwnP P (wr.drew.setRow (w.heap.size + 1) (nvB y gk).cells.toArray)) w (wr.drew.setRow (w.heap.size + 1) (nvB y gk).cells.toArray) := fun k hK hk => by
            have e : (wr.drew.setRow (w.heap.size + 1) (nvB y gk).cells.toArray).heap[k]? = w.heap[k]? := (setRow_other _ _ _ _ (by omega)).trans (HBF.out.bel.block k hk)
            exact ⟨e, hK.1, fun o => (World.frozen?_of_block (w := w) e).trans (hK.2 o)⟩
          have hra := HRA.out.go hk1
          have hrl : rs.length = 16 := by rw [hra.1, HYL.out]
          refine ⟨nvB y gk, rfl, rfl, Zha _ _, (Zju HY.out).go hk2, Ze8 _ _, ⟨hrl.symm, Nat.le_refl _, by show 16 ≤ maxLen; unfold maxLen; omega, by show 16 ≤ 2199023255488; omega, fun h => by cases h⟩, ?_⟩
          exact Znk hkr ⟨HBASE.out gk (by have := HBF.out.gk2; omega), fun o => frozen_of_row _ _ _ _ _ hkr⟩ hra
structure AtP (P : Nat → Prop) (w : World) (a : Option Addr) (k : Nat) (t : T) (g off : Nat) (y : V) : Prop where
  ha : a = some ⟨g, off, none⟩
  c0 : w.cell? ⟨g, off + k * 3, none⟩ = some (.bool y.l)
  c1 : w.cell? ⟨g, off + k * 3 + 1, none⟩ = some (.slice y.ba y.bn y.bc)
  c2 : w.cell? ⟨g, off + k * 3 + 2, none⟩ = some (.slice y.ia y.m y.ic)
  li : LiesP P w t y
theorem Zcr {P : Nat → Prop} {w : World} {a : Option Addr} : ∀ {its : List T} {k : Nat}, LiesPAll P w its a k → ∀ (i : Nat) (t : T), its[i]? = some t → ∃ g off y, AtP P w a (k + i) t g off y
  | [], k, _, i, t, h => by simp at h
  | x :: r, k, hl, i, t, h => by
    obtain ⟨⟨g, off, y, ⟨h1, _⟩, h2, h3, h4, h5⟩, hr⟩ := liesPAll_cons.1 hl
    cases i with
    | zero => simp at h; subst h; exact ⟨g, off, y, h1, h2, h3, h4, h5⟩
    | succ i =>
      obtain ⟨g', off', y', A⟩ := Zcr hr i t (by simpa using h)
      rw [show k + 1 + i = k + (i + 1) from by omega] at A
      exact ⟨g', off', y', A⟩
theorem Zfm {w : World} {a : Option Addr} : ∀ {its : List T} {k : Nat} (n : Nat), LiesAll w its a k → LiesAll w (its.take n) a k
  | _, _, 0, _ => by rw [List.take_zero]; exact Zcs
  | [], _, n + 1, _ => by rw [List.take_nil]; exact Zcs
  | x :: r, k, n + 1, h => by
    rw [List.take_succ_cons]
    obtain ⟨h1, h2⟩ := liesAll_cons.1 h
    exact liesAll_cons.2 ⟨h1, Zfm n h2⟩
theorem Zfn {w w' : World} (hb : Below w.heap.size w w') {a : Option Addr} : ∀ {its : List T} {k : Nat}, LiesAll w its a k → LiesAll w' its a k
  | [], _, _ => Zcs
  | t :: r, k, h => by
    obtain ⟨⟨g, off, y, h1, h2, h3, h4, h5⟩, hr⟩ := liesAll_cons.1 h
    exact liesAll_cons.2 ⟨⟨g, off, y, h1, Zaw hb h2, Zaw hb h3, Zaw hb h4, Zcq hb t y h5⟩, Zfn hb hr⟩
theorem Zgn {P : Nat → Prop} {o : Option PN} {e : Ending} (h : NPost P w o e w') : ∃ v, e = .returned v ∧ (Below w.heap.size w w' ∧ ∃ (y : NV) (b : Bool), y.c.d.length = 32 ∧ v = .tuple #[.agg y.cells.toArray, .bool b] ∧ b = o.isSome ∧ ∀ n, o = some n → NodeAt (OwnP P w') w' y n) := by
  obtain ⟨hb, hm⟩ := h
  cases o with
  | none =>
    obtain ⟨y, hl, e1⟩ := hm
    exact ⟨_, e1, hb, y, false, hl, rfl, rfl, fun n h => by cases h⟩
  | some n =>
    obtain ⟨y, e1, hn⟩ := hm
    exact ⟨_, e1, hb, y, true, hn.c.len, rfl, rfl, fun m h => by cases h; exact hn⟩
section
variable {a : Act} {w : World}
theorem Zm9 {x : Operand} {g off m c : Nat} {o : Oper} (ho : o.op = .slice 74 x none (some (.const (.int .i64 16))) none) (hx : a.eval x = .slice (some ⟨g, off, none⟩) m c) (hc : 16 ≤ c) (hm : c ≤ 9223372036854775807) : (execOp a.eval o).run Tryz.prog w = .ok (.value (.slice (some ⟨g, off, none⟩) 16 c)) w := by
  have h1 : (16 : Int) ≤ c := by omega
  unfold execOp
  rw [ho]
  simp only [hx, Option.map]
  go_simp
end
set_option maxHeartbeats 8000000 in
theorem Znf (base : Nat) (t : T) (x : V) (w : World) (h : LiesP (fun b => base ≤ b) w t x) (hb : base ≤ w.heap.size) (hsz : ∀ u ∈ t.its, u.bs.length ≤ 16777216) :
    Calls Tryz.prog 54 #[.agg #[.bool x.l, .slice x.ba x.bn x.bc, .slice x.ia x.m x.ic]] w (NPost (fun g => base ≤ g) w (nodeOfP t)) := by
  obtain ⟨l, bs, its⟩ := t
  have hsz : ∀ u ∈ its, u.bs.length ≤ 16777216 := hsz
  have hq : LiesP (fun g => base ≤ g ∧ g ≠ w.heap.size + 1) w (.mk l bs its) x := Zax (fun b hb hlt => ⟨rfl, hb, by omega⟩) _ x h
  obtain ⟨⟨hl, -, hm, hmc, hcm, -⟩, hall⟩ := liesP_eq.1 hq
  have hlall := (lies_eq.1 (Zcn _ _ hq)).2.2.2.2.2.2
  unfold maxLen at hcm
  subst hl
  have HM := Hid.mk hm
  have HALL := Hid.mk hall
  have HLA := Hid.mk hlall
  have HSZ := Hid.mk hsz
  obtain ⟨res, hres⟩ : ∃ res, nodeOfP (.mk x.l bs its) = res := ⟨_, rfl⟩
  rw [hres]
  have hres : (if its.length = 2 then pathP (its.getD 0 t0) (its.getD 1 t0) else if its.length = 17 then branchP (its.take 16) (its.getD 16 t0) else none) = res := hres
  rw [← hm] at hres
  have HRES := Hid.mk hres
  have HPB0 := Hid.mk (Zt2 w x)
  have HBASE := Hid.mk hb
  clear h hb hsz hq hm hall hlall hres
  go_enter Tryz.func54, Tryz.ntmps54
  go_upto_region 1 with fail
  refine gen_w (p := fun v => Code.wp _ _ _ _ v) (q := fun v => Pb w v x) HPB0.out ?_
  clear HPB0
  intro v P0
  have c2 := P0.bx.c2
  have HPB := Hid.mk P0
  clear P0
  have HSC := Hid.mk (show ∀ w', Below v.drew.heap.size v.drew w' → B1 w.heap.size w' x ∧ Below w.heap.size w w' from fun w' hb => ⟨HPB.out.bx.go (below_go (Below.refl _ _).drew hb), below_go HPB.out.bel.drew hb⟩)
  have HSP := Hid.mk (show ∀ (w' : World) (C : Array Value), B1 w.heap.size w' x ∧ Below w.heap.size w w' → B1 w.heap.size (w'.setRow (w.heap.size + 1) C) x ∧ Below w.heap.size w (w'.setRow (w.heap.size + 1) C) from fun w' C h => ⟨Zby h.1 (by omega), Below.setRow h.2 (by omega) _⟩)
  have HS0 := Hid.mk (show B1 w.heap.size v.drew x ∧ Below w.heap.size w v.drew from ⟨⟨HPB.out.bx.c0, HPB.out.bx.c1, HPB.out.bx.c2⟩, HPB.out.bel.drew⟩)
  have HEND := Hid.mk (show ∀ (w2 : World) (y' : NV) (b : Bool), y'.c.d.length = 32 → b = res.isSome → (∀ n, res = some n → NodeAt (OwnP (fun g => base ≤ g ∧ g ≠ w.heap.size + 1) w2) w2 y' n) → B1 w.heap.size w2 x ∧ Below w.heap.size w w2 → NPost (fun g => base ≤ g) w res (.returned (.tuple #[.agg y'.cells.toArray, .bool b])) (w2.setRow (w.heap.size + 1) y'.cells.toArray) from fun w2 y' b hl' hbr hna hS => by
    refine ⟨Below.setRow hS.2 (by omega) _, ?_⟩
    subst hbr
    cases res with
    | none => exact ⟨y', hl', rfl⟩
    | some n =>
      refine ⟨y', rfl, (hna n rfl).go fun k hK hk => ?_⟩
      have e : (w2.setRow (w.heap.size + 1) y'.cells.toArray).heap[k]? = w2.heap[k]? := setRow_other _ _ _ _ hK.1.2
      exact ⟨e, hK.1.1, fun o => (World.frozen?_of_block (w := w2) e).trans (hK.2 o)⟩)
  have HPP := Hid.mk (show ∀ g, v.drew.heap.size ≤ g → (base ≤ g ∧ g ≠ w.heap.size + 1) from fun g hg => by
    have h1 : v.heap.size ≤ g := hg
    have := HPB.out.sz
    have := HBASE.out
    omega)
  by_cases h2 : x.m = 2
  · have hr := HRES.out
    rw [if_pos h2] at hr
    have hl2 : its.length = 2 := by rw [← HM.out, h2]
    rw [h2] at c2
    obtain ⟨g, off, y0, A0⟩ := Zcr HALL.out 0 (its.getD 0 t0) (by rw [List.getD, List.getElem?_eq_getElem (by omega)]; rfl)
    obtain ⟨g1, off1, y1, A1⟩ := Zcr HALL.out 1 (its.getD 1 t0) (by rw [List.getD, List.getElem?_eq_getElem (by omega)]; rfl)
    have ha := A1.ha
    rw [A0.ha] at ha
    cases ha
    have HX0 := Hid.mk (HSZ.out _ (Zg1 (l := its) (i := 0) (by omega)))
    have hia := A0.ha
    rw [hia] at c2
    have HA0 := Hid.mk A0
    have HA1 := Hid.mk A1
    have HR := Hid.mk hr
    have HC2 := Hid.mk c2
    generalize its.getD 0 t0 = tt0 at HA0 HX0 HR
    generalize its.getD 1 t0 = tt1 at HA1 HR
    clear hl2 hia A0 A1 hr
    go_upto_region 3 with fail
    rename_i KK hkk
    refine wp_region_held_drew (S := fun v' => B1 w.heap.size v' x ∧ Below w.heap.size w v') (by kernel_rfl) HS0.out (fun hS => ?_)
    have hxia : ∀ v', B1 w.heap.size v' x → v'.cell? ⟨w.heap.size, 2, none⟩ = some (.slice (some ⟨g, off, none⟩) 2 x.ic) := fun v' hv => by have := hv.c2; rwa [HA0.out.ha, h2] at this
    refine Zay 0 9 (.pointer (some ⟨w.heap.size, 2, none⟩)) rfl rfl (by kernel_rfl) (by kernel_rfl) (by kernel_rfl) (fun _ _ _ h => h) (by kernel_rfl) (fun v _ => by kernel_rfl) hS ?_
    refine Zay 1 10 (.slice (some ⟨g, off, none⟩) 2 x.ic) rfl rfl (by kernel_rfl) (by kernel_rfl) (by kernel_rfl) (fun _ _ _ h => h) (by kernel_rfl) (fun v' hv => Zfy rfl (by kernel_rfl) (hxia v' hv.1)) hS ?_
    refine Zay 2 11 (.pointer (some ⟨g, off + (0 + 0) * 3, none⟩)) rfl rfl (by kernel_rfl) (by kernel_rfl) (by kernel_rfl) (fun _ _ _ h => h) (by kernel_rfl) (fun v' _ => Zil (j := 0 + 0) (m := 2) (c := x.ic) rfl (by kernel_rfl) (by kernel_rfl) (by omega)) hS ?_
    refine Zay 3 12 (.agg #[.bool y0.l, .slice y0.ba y0.bn y0.bc, .slice y0.ia y0.m y0.ic]) rfl rfl (by kernel_rfl) (by kernel_rfl) (by kernel_rfl) (fun _ _ _ h => h) (by kernel_rfl) (fun v' hv => Zij rfl (by kernel_rfl) (Zaw hv.2 HA0.out.c0) (Zaw hv.2 HA0.out.c1) (Zaw hv.2 HA0.out.c2)) hS ?_
    refine Zay 4 13 (.pointer (some ⟨w.heap.size, 2, none⟩)) rfl rfl (by kernel_rfl) (by kernel_rfl) (by kernel_rfl) (fun _ _ _ h => h) (by kernel_rfl) (fun v _ => by kernel_rfl) hS ?_
    refine Zay 5 14 (.slice (some ⟨g, off, none⟩) 2 x.ic) rfl rfl (by kernel_rfl) (by kernel_rfl) (by kernel_rfl) (fun _ _ _ h => h) (by kernel_rfl) (fun v' hv => Zfy rfl (by kernel_rfl) (hxia v' hv.1)) hS ?_
    refine Zay 6 15 (.pointer (some ⟨g, off + (0 + 1) * 3, none⟩)) rfl rfl (by kernel_rfl) (by kernel_rfl) (by kernel_rfl) (fun _ _ _ h => h) (by kernel_rfl) (fun v' _ => Zil (j := 0 + 1) (m := 2) (c := x.ic) rfl (by kernel_rfl) (by kernel_rfl) (by omega)) hS ?_
    refine Zay 7 16 (.agg #[.bool y1.l, .slice y1.ba y1.bn y1.bc, .slice y1.ia y1.m y1.ic]) rfl rfl (by kernel_rfl) (by kernel_rfl) (by kernel_rfl) (fun _ _ _ h => h) (by kernel_rfl) (fun v' hv => Zij rfl (by kernel_rfl) (Zaw hv.2 HA1.out.c0) (Zaw hv.2 HA1.out.c1) (Zaw hv.2 HA1.out.c2)) hS ?_
    refine wpAnyH_ready (rs := [8]) (by kernel_rfl) (by simp) ?_
    refine Zdr 8 17 rfl rfl (by kernel_rfl) 84 #[.agg #[.bool y0.l, .slice y0.ba y0.bn y0.bc, .slice y0.ia y0.m y0.ic], .agg #[.bool y1.l, .slice y1.ba y1.bn y1.bc, .slice y1.ia y1.m y1.ic]] (by kernel_rfl) (R := fun val w' => Below v.drew.heap.size v.drew w' ∧ ∃ (y : NV) (b : Bool), y.c.d.length = 32 ∧ val = .tuple #[.agg y.cells.toArray, .bool b] ∧ b = res.isSome ∧ ∀ n, res = some n → NodeAt (OwnP (fun g => base ≤ g ∧ g ≠ w.heap.size + 1) w') w' y n) (by rw [← HR.out]; exact (Zjo (fun g => base ≤ g ∧ g ≠ w.heap.size + 1) tt0 tt1 y0 y1 v.drew (Zcq HPB.out.bel.drew _ _ (Zcn _ _ HA0.out.li)) (Zax (fun b hb hlt => ⟨HPB.out.bel.drew.block b hlt, hb⟩) _ _ HA1.out.li) HPP.out HX0.out).mono (fun e w' h => Zgn h)) (fun val w' h => HSC.out w' h.1) ?_ AllReadyH.nil
    rintro val w2 ⟨hb2, y', b, hl', rfl, hbr, hna⟩
    have hS2 := HSC.out w2 hb2
    have hrow : w2.heap[w.heap.size + 1]? = some (.cells nz.cells.toArray 68) := Below.row hb2 HPB.out.row
    refine Zay 9 18 (.agg y'.cells.toArray) rfl rfl (by kernel_rfl) (by kernel_rfl) (by kernel_rfl) (fun _ _ _ h => h) (by kernel_rfl) (fun v _ => by kernel_rfl) hS2 ?_
    refine Zay 10 19 (.bool b) rfl rfl (by kernel_rfl) (by kernel_rfl) (by kernel_rfl) (fun _ _ _ h => h) (by kernel_rfl) (fun v _ => by kernel_rfl) hS2 ?_
    refine wpAnyH_ready (rs := [11]) (by kernel_rfl) (by simp) ?_
    refine Zdq 11 rfl rfl (by kernel_rfl) (Zck 68 _ _ rfl (w.heap.size + 1) y'.cells.toArray (by kernel_rfl) (by kernel_rfl) 68 nz.cells.toArray hrow (Zbj hl') (Zbe hl') (all_oneCell_toArray (NV.one _))) (HSP.out _ _ hS2) ?_ AllReadyH.nil
    refine Zay 12 3 (.bool b) rfl rfl (by kernel_rfl) (by kernel_rfl) (by kernel_rfl) (fun _ _ _ h => h) (by kernel_rfl) (fun v _ => by kernel_rfl) (HSP.out _ _ hS2) ?_
    refine wpAnyH_done (by kernel_rfl) ?_ _
    refine hkk _ _ ?_
    refine Zd6 Tryz.results54 (fun h => h) (w.heap.size + 1) y' (.bool b) hl' (by kernel_rfl) (by kernel_rfl) (by kernel_rfl) (setRow_heap _ _ _ _ _ _ hrow) ?_
    exact HEND.out w2 y' b hl' hbr hna hS2
  · by_cases h17 : x.m = 17
    · have hr := HRES.out
      rw [if_neg h2, if_pos h17] at hr
      have hl17 : its.length = 17 := by rw [← HM.out, h17]
      rw [h17] at c2 hmc
      obtain ⟨g, off, y1, A1⟩ := Zcr HALL.out 16 (its.getD 16 t0) (by rw [List.getD, List.getElem?_eq_getElem (by omega)]; rfl)
      have hia := A1.ha
      rw [hia] at c2
      have HA1 := Hid.mk A1
      have HR := Hid.mk hr
      have hta := Zfm 16 HLA.out
      rw [hia] at hta
      have HTA := Hid.mk hta
      have HTL := Hid.mk (show (its.take 16).length = 16 from by rw [List.length_take]; omega)
      have H17 := Hid.mk h17
      generalize its.getD 16 t0 = tt1 at HA1 HR
      generalize its.take 16 = tts at HTA HTL HR
      clear hl17 hia A1 hr hta h17 h2
      go_upto_region 5 with fail
      rename_i KK hkk
      refine wp_region_held_drew (S := fun v' => B1 w.heap.size v' x ∧ Below w.heap.size w v') (by kernel_rfl) HS0.out (fun hS => ?_)
      have hxia : ∀ v', B1 w.heap.size v' x → v'.cell? ⟨w.heap.size, 2, none⟩ = some (.slice (some ⟨g, off, none⟩) 17 x.ic) := fun v' hv => by have := hv.c2; rwa [HA1.out.ha, H17.out] at this
      refine Zay 0 22 (.pointer (some ⟨w.heap.size, 2, none⟩)) rfl rfl (by kernel_rfl) (by kernel_rfl) (by kernel_rfl) (fun _ _ _ h => h) (by kernel_rfl) (fun v _ => by kernel_rfl) hS ?_
      refine Zay 1 23 (.slice (some ⟨g, off, none⟩) 17 x.ic) rfl rfl (by kernel_rfl) (by kernel_rfl) (by kernel_rfl) (fun _ _ _ h => h) (by kernel_rfl) (fun v' hv => Zfy rfl (by kernel_rfl) (hxia v' hv.1)) hS ?_
      refine Zay 2 24 (.slice (some ⟨g, off, none⟩) 16 x.ic) rfl rfl (by kernel_rfl) (by kernel_rfl) (by kernel_rfl) (fun _ _ _ h => h) (by kernel_rfl) (fun v' _ => Zm9 (m := 17) rfl (by kernel_rfl) (by omega) (by omega)) hS ?_
      refine Zay 3 25 (.pointer (some ⟨w.heap.size, 2, none⟩)) rfl rfl (by kernel_rfl) (by kernel_rfl) (by kernel_rfl) (fun _ _ _ h => h) (by kernel_rfl) (fun v _ => by kernel_rfl) hS ?_
      refine Zay 4 26 (.slice (some ⟨g, off, none⟩) 17 x.ic) rfl rfl (by kernel_rfl) (by kernel_rfl) (by kernel_rfl) (fun _ _ _ h => h) (by kernel_rfl) (fun v' hv => Zfy rfl (by kernel_rfl) (hxia v' hv.1)) hS ?_
      refine Zay 5 27 (.pointer (some ⟨g, off + (0 + 16) * 3, none⟩)) rfl rfl (by kernel_rfl) (by kernel_rfl) (by kernel_rfl) (fun _ _ _ h => h) (by kernel_rfl) (fun v' _ => Zil (j := 0 + 16) (m := 17) (c := x.ic) rfl (by kernel_rfl) (by kernel_rfl) (by omega)) hS ?_
      refine Zay 6 28 (.agg #[.bool y1.l, .slice y1.ba y1.bn y1.bc, .slice y1.ia y1.m y1.ic]) rfl rfl (by kernel_rfl) (by kernel_rfl) (by kernel_rfl) (fun _ _ _ h => h) (by kernel_rfl) (fun v' hv => Zij rfl (by kernel_rfl) (Zaw hv.2 HA1.out.c0) (Zaw hv.2 HA1.out.c1) (Zaw hv.2 HA1.out.c2)) hS ?_
      refine wpAnyH_ready (rs := [7]) (by kernel_rfl) (by simp) ?_
      refine Zdr 7 29 rfl rfl (by kernel_rfl) 85 #[.slice (some ⟨g, off, none⟩) 16 x.ic, .agg #[.bool y1.l, .slice y1.ba y1.bn y1.bc, .slice y1.ia y1.m y1.ic]] (by kernel_rfl) (R := fun val w' => Below v.drew.heap.size v.drew w' ∧ ∃ (y : NV) (b : Bool), y.c.d.length = 32 ∧ val = .tuple #[.agg y.cells.toArray, .bool b] ∧ b = res.isSome ∧ ∀ n, res = some n → NodeAt (OwnP (fun g => base ≤ g ∧ g ≠ w.heap.size + 1) w') w' y n) (by rw [← HR.out]; exact (Zhj (fun g => base ≤ g ∧ g ≠ w.heap.size + 1) tts (some ⟨g, off, none⟩) x.ic tt1 y1 v.drew HTL.out (Zfn HPB.out.bel.drew HTA.out) ⟨by omega, by unfold maxLen; omega⟩ (Zax (fun b hb hlt => ⟨HPB.out.bel.drew.block b hlt, hb⟩) _ _ HA1.out.li) HPP.out).mono (fun e w' h => Zgn h)) (fun val w' h => HSC.out w' h.1) ?_ AllReadyH.nil
      rintro val w2 ⟨hb2, y', b, hl', rfl, hbr, hna⟩
      have hS2 := HSC.out w2 hb2
      have hrow : w2.heap[w.heap.size + 1]? = some (.cells nz.cells.toArray 68) := Below.row hb2 HPB.out.row
      refine Zay 8 30 (.agg y'.cells.toArray) rfl rfl (by kernel_rfl) (by kernel_rfl) (by kernel_rfl) (fun _ _ _ h => h) (by kernel_rfl) (fun v _ => by kernel_rfl) hS2 ?_
      refine Zay 9 31 (.bool b) rfl rfl (by kernel_rfl) (by kernel_rfl) (by kernel_rfl) (fun _ _ _ h => h) (by kernel_rfl) (fun v _ => by kernel_rfl) hS2 ?_
      refine wpAnyH_ready (rs := [10]) (by kernel_rfl) (by simp) ?_
      refine Zdq 10 rfl rfl (by kernel_rfl) (Zck 68 _ _ rfl (w.heap.size + 1) y'.cells.toArray (by kernel_rfl) (by kernel_rfl) 68 nz.cells.toArray hrow (Zbj hl') (Zbe hl') (all_oneCell_toArray (NV.one _))) (HSP.out _ _ hS2) ?_ AllReadyH.nil
      refine Zay 11 3 (.bool b) rfl rfl (by kernel_rfl) (by kernel_rfl) (by kernel_rfl) (fun _ _ _ h => h) (by kernel_rfl) (fun v _ => by kernel_rfl) (HSP.out _ _ hS2) ?_
      refine wpAnyH_done (by kernel_rfl) ?_ _
      refine hkk _ _ ?_
      refine Zd6 Tryz.results54 (fun h => h) (w.heap.size + 1) y' (.bool b) hl' (by kernel_rfl) (by kernel_rfl) (by kernel_rfl) (setRow_heap _ _ _ _ _ _ hrow) ?_
      exact HEND.out w2 y' b hl' hbr hna hS2
    · have hr := HRES.out
      rw [if_neg h2, if_neg h17] at hr
      subst hr
      have e2 : ((x.m : Int) == 2) = false := by rw [beq_eq_false_iff_ne]; omega
      have e17 : ((x.m : Int) == 17) = false := by rw [beq_eq_false_iff_ne]; omega
      go_wp2_with (first | refine wpList_store_row rfl 68 _ _ rfl _ nz.cells.toArray rfl rfl 68 _ HPB.out.row (Zbj rfl) (Zbe rfl) (all_oneCell_toArray (NV.one _)) ?_)
      refine bodyPost_ret (Zbg Tryz.results54 _ _ (w.heap.size + 1) nz rfl rfl (setRow_heap _ _ _ _ _ _ HPB.out.row)) rfl ?_
      exact ⟨Below.setRow HPB.out.bel (by omega) _, nz, rfl, rfl⟩
end Go.Proofs.YtchgejomcgoaeaaGreat
namespace Go.Proofs.YtchgejomcgoaeaaGreat.Ni
open Go.RowKit
set_option maxHeartbeats 400000 in
theorem right_any (a : Option Addr) (n c : Nat) (b : List Int) (w : World) (h : Ag w a n c b) (hn : n ≤ 140737488355328) :
    Calls Tryz.prog 113 #[.slice a n c] w fun e w' => e = .returned (.bool (rightP b)) ∧ w' = w := by
  have HL := Hid.mk h.l
  have HC : Hid (0 < n → ∃ g off, a = some ⟨g, off, none⟩ ∧ n ≤ c ∧ c ≤ maxLen ∧ ∀ j, j < n → w.cell? ⟨g, off + j, none⟩ = some (.int .u8 (b.getD j 0))) := Hid.mk (ag_head h)
  have HB := Hid.mk h.b
  clear h
  obtain ⟨res, hres⟩ : ∃ r, rightP b = r := ⟨_, rfl⟩
  rw [hres]
  have HRES := Hid.mk hres
  clear hres
  go_enter Tryz.func113, Tryz.ntmps113
  go_wp2_with fail
  go_loopw [7] (fun i v => ∃ j : Nat, j ≤ n ∧ i = .int .i64 j ∧ (∀ i, i < j → b.getD i 0 ≤ 15) ∧ v = w) (fun i _ => n - (intOf i).toNat)
  case atStart => exact ⟨0, by omega, rfl, fun i hi => by omega, rfl⟩
  case round =>
    obtain ⟨j, hj, rfl, hle, rfl⟩ := hrel
    have HLE := Hid.mk hle
    clear hle
    by_cases hlt : j < n
    · obtain ⟨g, off, rfl, hnc, hcm, hcs⟩ := HC.out (by omega)
      unfold maxLen at hcm
      have hcell := hcs j hlt
      have hx := HB.out _ (getD_mem (show j < b.length by have := HL.out; omega))
      have HX : Hid (b.getD j 0 > 15 → rightP b = false) := Hid.mk (fun h => Zr2 (by have := HL.out; omega) h)
      have HY : Hid (b.getD j 0 ≤ 15 → ∀ i, i < j + 1 → b.getD i 0 ≤ 15) := Hid.mk (fun h i hi => by
        by_cases e : i = j
        · rw [e]; exact h
        · exact HLE.out i (by omega))
      generalize b.getD j 0 = x at hcell hx HX HY
      obtain ⟨hx0, hx1⟩ := hx
      have hji : (j : Int) < n := by omega
      clear hcs
      by_cases h15 : x > 15
      · have e : res = false := HRES.out.symm.trans (HX.out h15)
        subst e
        go_wp2_with fail
        go_ret
        exact ⟨rfl, rfl⟩
      · have h15' : ¬ x > 15 := h15
        go_wp2_with fail
        exact ⟨⟨j + 1, by omega, by simp, HY.out (by omega), trivial⟩, by simp [intOf]; omega⟩
    · have hji : ¬ (j : Int) < n := by omega
      have e : res = true := HRES.out.symm.trans (Zow fun i hi => HLE.out i (by have := HL.out; omega))
      subst e
      go_wp2_with fail
      go_ret
      exact ⟨rfl, rfl⟩
end Go.Proofs.YtchgejomcgoaeaaGreat.Ni

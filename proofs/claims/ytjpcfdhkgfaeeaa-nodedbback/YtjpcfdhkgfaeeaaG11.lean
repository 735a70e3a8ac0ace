/- The reference's Drop answers as the store's does. -/
import Derived.Test.YtjpcfdhkgfaeeaaG10
namespace Go.Proofs.Ytjpcfdhkgfaeeaa
open Go.RowKit
set_option linter.unusedVariables false
set_option maxRecDepth 100000
theorem rd_sub1 {a : Act} {w : World} {x : Operand} {p : Int} {o : Oper} (ho : o.op = .binOp .sub 3 x (.const (.int .i64 1)) 3) (hx : a.eval x = .int .i64 p) (h1 : 1 ≤ p) (h2 : p ≤ 4294967295) : (execOp a.eval o).run Try.prog w = .ok (.value (.int .i64 (p - 1))) w := by
  unfold execOp
  rw [ho]
  have hw : IntKind.i64.wrap (p - 1) = p - 1 := by unfold IntKind.wrap; simp [IntKind.bits, IntKind.signed]; omega
  simp only [hx]
  go_simp
theorem results_s2 {fn : Func} {p q u : Tmp} (h : fn.results = #[.cell p 28, .tmp q, .tmp u]) (tmps : Array Value) (w : World) (gp : Nat) (m : Int) (ia : Option Addr) (n c : Nat) (hp : tmps.getD p undef = .pointer (some ⟨gp, 0, none⟩)) (hg : SBx gp w m ia n c) :
    (results fn tmps).run Try.prog w = .ok (.tuple #[.agg #[.int .i64 m, .slice ia n c], tmps.getD q undef, tmps.getD u undef]) w := by
  have hp' : tmps[p]?.getD undef = .pointer (some ⟨gp, 0, none⟩) := by simpa using hp
  have hr := run_loadVar_row (P := Try.prog) w gp 28 28 #[.int .i64 m, .slice ia n c] (0, 0) _ hg Try.underlying28 rfl (by kernel_rfl)
  simp [results, h, hp', asAddr, hr]
/-- The boxes, while Drop goes on. -/
structure Rq (w v : World) (most : Int) (a : Option Addr) (n c : Nat) (d : List Int) : Prop where
  sb : SBx w.heap.size v most a n c
  db : DBx (w.heap.size + 1) v d
  rb : SBx (w.heap.size + 2) v 0 none 0 0
  bel : Below w.heap.size w v
theorem Rq.go {w v v' : World} {most : Int} {a : Option Addr} {n c : Nat} {d : List Int} (h : Rq w v most a n c d) (hb : Below v.heap.size v v') : Rq w v' most a n c d := ⟨h.sb.go hb, h.db.go hb, h.rb.go hb, below_go h.bel hb⟩
theorem Rq.drew {w v : World} {most : Int} {a : Option Addr} {n c : Nat} {d : List Int} (h : Rq w v most a n c d) : Rq w v.drew most a n c d := h.go (Below.refl _ _).drew
theorem rq_new (w : World) (most : Int) (a : Option Addr) (n c : Nat) (d : List Int) (hd : d.length = 32) : Rq w (((w.alloc (.cells #[.int .i64 most, .slice a n c] 28)).alloc (.cells (B8 d) 30)).alloc (.cells #[.int .i64 0, .slice none 0 0] 28)) most a n c d := by
  have s1 : (w.alloc (.cells #[.int .i64 most, .slice a n c] 28)).heap.size = w.heap.size + 1 := by simp
  have s2 : ((w.alloc (.cells #[.int .i64 most, .slice a n c] 28)).alloc (.cells (B8 d) 30)).heap.size = w.heap.size + 2 := by simp
  have h1 : SBx w.heap.size (w.alloc (.cells #[.int .i64 most, .slice a n c] 28)) most a n c := heap_alloc_new _ _
  have h2 := dbx_new (w.alloc (.cells #[.int .i64 most, .slice a n c] 28)) d hd
  rw [s1] at h2
  have h3 : SBx (w.heap.size + 2) (((w.alloc (.cells #[.int .i64 most, .slice a n c] 28)).alloc (.cells (B8 d) 30)).alloc (.cells #[.int .i64 0, .slice none 0 0] 28)) 0 none 0 0 := by unfold SBx; rw [← s2]; exact heap_alloc_new _ _
  exact ⟨(h1.go (below_new _ _)).go (below_new _ _), h2.go (below_new _ _), h3, below_go (below_go (below_new _ _) (below_new _ _)) (below_new _ _)⟩
theorem Ls.one {v : World} {a : Option Addr} {n c g1 : Nat} {L : List Th} {C1 : Array Value} (h : Ls v a n c L) (h1 : ∀ g off, a = some ⟨g, off, none⟩ → 0 < n → g ≠ g1) : Ls (v.setRow g1 C1) a n c L := ⟨h.l, h.nc, h.nil, fun j x hj => by
  obtain ⟨g, off, e, hr⟩ := h.rows j x hj
  have hn : 0 < n := by rw [h.l]; have := (List.getElem?_eq_some_iff.1 hj).1; omega
  exact ⟨g, off, e, range_keep hr (fun _ => setRow_other _ _ _ _ (h1 g off e hn))⟩, h.lens⟩
set_option maxHeartbeats 8000000 in
theorem rdrop_any (most : Int) (a : Option Addr) (n c : Nat) (L : List Th) (d : List Int) (hd : d.length = 32) (w : World) (h : Ls w a n c L) (hr : Rng L) (hn : n ≤ 2199023255549) :
    Calls Try.prog 26 #[.agg #[.int .i64 most, .slice a n c], .agg (B8 d)] w fun e w' => (∃ a' n' c', e = .returned (.tuple #[.agg #[.int .i64 most, .slice a' n' c'], .bool (dropT d L).2.1, .int .i64 (dropT d L).2.2]) ∧ Ls w' a' n' c' (dropT d L).1) ∧ Below w.heap.size w w' := by
  have HH := Hid.mk h
  have HRN := Hid.mk hr
  have HP0 := Hid.mk (rq_new w most a n c d hd)
  have HL := Hid.mk h.l
  have HDL := Hid.mk hd
  obtain ⟨⟨L', b', e'⟩, hpr⟩ : ∃ x, dropT d L = x := ⟨_, rfl⟩
  rw [hpr]
  unfold dropT at hpr
  have HPR := Hid.mk hpr
  clear h hr hpr hd
  simp only
  go_enter Try.func26, Try.ntmps26
  go_upto_region 1 with fail
  refine gen_w (p := fun v => Code.wp _ _ _ _ v) (q := fun v => Rq w v most a n c d) HP0.out ?_
  clear HP0
  intro u hP
  have HP := Hid.mk hP
  clear hP
  have HAT := Hid.mk (rat_any most a n c L d HDL.out u (HH.out.go HP.out.bel) (by omega))
  rename_i KK hkk
  refine wp_region_lit ?_
  refine wl_pure 9 (.agg #[.int .i64 most, .slice a n c]) rfl (by kernel_rfl) (rd_loadS rfl (by kernel_rfl) HP.out.sb) ?_
  refine wl_pure 10 (.agg (B8 d)) rfl (by kernel_rfl) (rd_loadDd rfl (by kernel_rfl) HP.out.db) ?_
  refine wl_call 11 rfl (by kernel_rfl) 22 #[.agg #[.int .i64 most, .slice a n c], .agg (B8 d)] (by kernel_rfl) (R := fun val w' => val = .int .i64 (atT d L) ∧ Below u.heap.size u w') (HAT.out.mono (fun e w' h => ⟨_, h.1, rfl, h.2⟩)) ?_
  rintro val u1 ⟨rfl, hb1⟩
  refine wl_pure 7 (.int .i64 (atT d L)) rfl (by kernel_rfl) (by kernel_rfl) ?_
  refine hkk _ _ ?_
  have hP1 := HP.out.go hb1
  clear HP hb1 hkk HAT
  have HP := Hid.mk hP1
  clear hP1
  go_frame
  cases hf : findT d L with
  | none =>
    have hat : atT d L = -1 := by unfold atT; rw [hf]
    rw [hat]
    have hpr := HPR.out
    rw [hf] at hpr
    cases hpr
    clear hat hf
    go_upto_region 3 with fail
    rename_i KK hkk
    refine wp_region_lit ?_
    refine wl_pure 14 (.agg #[.int .i64 most, .slice a n c]) rfl (by kernel_rfl) (rd_loadS rfl (by kernel_rfl) HP.out.sb) ?_
    refine wl_skip rfl (by kernel_rfl) (rd_store 28 _ _ rfl (w.heap.size + 2) #[.int .i64 most, .slice a n c] (by kernel_rfl) (by kernel_rfl) 28 #[.int .i64 0, .slice none 0 0] HP.out.rb (by kernel_rfl) rfl (s_one _ _ _ _)) ?_
    refine wl_pure 5 (.bool false) rfl (by kernel_rfl) (by kernel_rfl) ?_
    refine wl_pure 6 (.int .i64 61) rfl (by kernel_rfl) (by kernel_rfl) ?_
    refine hkk _ _ ?_
    have HEND := Hid.mk (show SBx (w.heap.size + 2) (u1.setRow (w.heap.size + 2) #[.int .i64 most, .slice a n c]) most a n c from setRow_heap _ _ _ _ _ _ HP.out.rb)
    have HLS := Hid.mk (show Ls (u1.setRow (w.heap.size + 2) #[.int .i64 most, .slice a n c]) a n c L from (HH.out.go HP.out.bel).one (fun g off e hn => by have := HH.out.lt g off e hn; omega))
    have HBL := Hid.mk (Below.setRow HP.out.bel (show w.heap.size ≤ w.heap.size + 2 by omega) #[.int .i64 most, .slice a n c])
    clear hkk
    generalize u1.setRow (w.heap.size + 2) #[.int .i64 most, .slice a n c] = uE at HEND HLS HBL ⊢
    go_frame
    go_wp2_with fail
    refine bodyPost_ret (results_s2 Try.results26 _ _ (w.heap.size + 2) most a n c rfl HEND.out) rfl ?_
    exact ⟨⟨a, n, c, rfl, HLS.out⟩, HBL.out⟩
  | some p =>
    obtain ⟨j, y⟩ := p
    have hat : atT d L = (j : Int) := by unfold atT; rw [hf]
    rw [hat]
    obtain ⟨hj, hyd⟩ := findT_some hf
    have hjl : j < n := by rw [HL.out]; exact (List.getElem?_eq_some_iff.1 hj).1
    obtain ⟨g, off, ha, hrg⟩ := HH.out.rows j y hj
    have HYL := Hid.mk (HH.out.lens y (List.mem_of_getElem? hj))
    have HYR := Hid.mk (show ∀ v', Rq w v' most a n c d → v'.rangeAt g (off + j * 34) y.cells from fun v' hv => range_keep hrg (fun hl => hv.bel.block g hl))
    have HAE := Hid.mk ha
    have hji : ¬ (j : Int) < 0 := by omega
    obtain ⟨hr1, hr2⟩ := HRN.out.find hf
    have hpr := HPR.out
    rw [hf] at hpr
    have hpr : (if 0 < y.r - 1 then (putT ⟨d, y.s, y.r - 1⟩ L, false, (0 : Int)) else (delT d L, true, 0)) = (L', b', e') := hpr
    have HALL := Hid.mk (show withL (j : Int) (y.r - 1) 0 L = L' ∧ decide (y.r - 1 = 0) = b' ∧ e' = 0 from by
      by_cases h0 : 0 < y.r - 1
      · rw [if_pos h0] at hpr
        cases hpr
        exact ⟨with_put HRN.out hf h0, decide_eq_false (by omega), rfl⟩
      · rw [if_neg h0] at hpr
        cases hpr
        exact ⟨with_del HRN.out hf h0, decide_eq_true (by omega), rfl⟩)
    have hc1 : ∀ v', Rq w v' most a n c d → v'.cell? ⟨w.heap.size, 1, none⟩ = some (.slice (some ⟨g, off, none⟩) n c) := fun v' hv => by have := hv.sb.c1; rwa [HAE.out] at this
    have HC1 := Hid.mk hc1
    have he0 := HALL.out.2.2
    subst he0
    clear hat hf hj hyd ha hrg hc1 hpr HPR
    go_upto_region 4 with fail
    rename_i KK hkk
    refine wp_region_lit ?_
    refine wl_pure 15 (.pointer (some ⟨w.heap.size, 1, none⟩)) rfl (by kernel_rfl) (by kernel_rfl) ?_
    refine wl_pure 16 (.slice (some ⟨g, off, none⟩) n c) rfl (by kernel_rfl) (rd_loadOL rfl (by kernel_rfl) (HC1.out _ HP.out)) ?_
    refine wl_pure 17 (.int .i64 j) rfl (by kernel_rfl) (by kernel_rfl) ?_
    refine wl_pure 18 (.pointer (some ⟨g, off + j * 34, none⟩)) rfl (by kernel_rfl) (rd_indexO (m := n) (c := c) rfl (by kernel_rfl) (by kernel_rfl) hjl) ?_
    refine wl_pure 19 (.pointer (some ⟨g, off + j * 34 + 33, none⟩)) rfl (by kernel_rfl) (by kernel_rfl) ?_
    refine wl_pure 20 (.int .i64 y.r) rfl (by kernel_rfl) (rd_loadi rfl (by kernel_rfl) (HYR.out _ HP.out 33 _ (Th.c33 HYL.out))) ?_
    refine wl_pure 21 (.int .i64 (y.r - 1)) rfl (by kernel_rfl) (rd_sub1 rfl (by kernel_rfl) hr1 hr2) ?_
    refine wl_pure 8 (.int .i64 (y.r - 1)) rfl (by kernel_rfl) (by kernel_rfl) ?_
    refine hkk _ _ ?_
    clear hkk
    go_frame
    have HWI := Hid.mk (rwith_any most a n c L j (y.r - 1) u1 (HH.out.go HP.out.bel) (by omega))
    rw [HALL.out.1] at HWI
    have HU := Hid.mk (show w.heap.size + 3 ≤ u1.heap.size from lt_of_get HP.out.rb)
    go_upto_region 5 with fail
    rename_i KK3 hkk
    refine wp_region_lit ?_
    refine wl_pure 22 (.agg #[.int .i64 most, .slice a n c]) rfl (by kernel_rfl) (rd_loadS rfl (by kernel_rfl) HP.out.sb) ?_
    refine wl_pure 23 (.int .i64 j) rfl (by kernel_rfl) (by kernel_rfl) ?_
    refine wl_pure 24 (.int .i64 (y.r - 1)) rfl (by kernel_rfl) (by kernel_rfl) ?_
    refine wl_call 25 rfl (by kernel_rfl) 32 #[.agg #[.int .i64 most, .slice a n c], .int .i64 j, .int .i64 (y.r - 1)] (by kernel_rfl) (R := fun val w' => (∃ a' m' c', val = .agg #[.int .i64 most, .slice a' m' c'] ∧ Ls w' a' m' c' L' ∧ ∀ g off, a' = some ⟨g, off, none⟩ → w.heap.size + 3 ≤ g) ∧ Below u1.heap.size u1 w') (HWI.out.mono (fun e w' h => by
      obtain ⟨⟨a', m', c', e1, e2, e3⟩, hb⟩ := h
      exact ⟨_, e1, ⟨a', m', c', rfl, e2, fun g off q => Nat.le_trans HU.out (e3 g off q)⟩, hb⟩)) ?_
    rintro val p1 ⟨⟨a', m', c', rfl, hls, hnw⟩, hbp⟩
    have hP2 := HP.out.go hbp
    refine wl_pure 26 (.int .i64 (y.r - 1)) rfl (by kernel_rfl) (by kernel_rfl) ?_
    refine wl_pure 27 (.bool b') rfl (by kernel_rfl) (rd_eqi rfl (by kernel_rfl) (by kernel_rfl) HALL.out.2.1) ?_
    refine wl_skip rfl (by kernel_rfl) (rd_store 28 _ _ rfl (w.heap.size + 2) #[.int .i64 most, .slice a' m' c'] (by kernel_rfl) (by kernel_rfl) 28 #[.int .i64 0, .slice none 0 0] hP2.rb (by kernel_rfl) rfl (s_one _ _ _ _)) ?_
    refine wl_pure 5 (.bool b') rfl (by kernel_rfl) (by kernel_rfl) ?_
    refine wl_pure 6 (.int .i64 0) rfl (by kernel_rfl) (by kernel_rfl) ?_
    refine hkk _ _ ?_
    have HEND := Hid.mk (show SBx (w.heap.size + 2) (p1.setRow (w.heap.size + 2) #[.int .i64 most, .slice a' m' c']) most a' m' c' from setRow_heap _ _ _ _ _ _ hP2.rb)
    have HLS := Hid.mk (show Ls (p1.setRow (w.heap.size + 2) #[.int .i64 most, .slice a' m' c']) a' m' c' L' from hls.one (fun g off e hn => by have := hnw g off e; omega))
    have HBL := Hid.mk (Below.setRow hP2.bel (show w.heap.size ≤ w.heap.size + 2 by omega) #[.int .i64 most, .slice a' m' c'])
    clear hkk hls hnw hbp hP2 HWI
    generalize p1.setRow (w.heap.size + 2) #[.int .i64 most, .slice a' m' c'] = uE at HEND HLS HBL ⊢
    go_frame
    go_wp2_with fail
    refine bodyPost_ret (results_s2 Try.results26 _ _ (w.heap.size + 2) most a' m' c' rfl HEND.out) rfl ?_
    exact ⟨⟨a', m', c', rfl, HLS.out⟩, HBL.out⟩
end Go.Proofs.Ytjpcfdhkgfaeeaa
/- Lists of digests in memory; that same tells whether two are the same. -/
namespace Go.Proofs.Ytjpcfdhkgfaeeaa
open Go.RowKit
set_option linter.unusedVariables false
set_option maxRecDepth 100000
/-- A list of digests in memory. -/
structure Ds (w : World) (a : Option Addr) (n c : Nat) (L : List (List Int)) : Prop where
  l : n = L.length
  nc : n ≤ c ∧ c ≤ maxLen
  nil : a = none → n = 0 ∧ c = 0
  rows : ∀ j d, L[j]? = some d → ∃ g off, a = some ⟨g, off, none⟩ ∧ w.rangeAt g (off + j * 32) (d.map (Value.int .u8))
  lens : ∀ d ∈ L, d.length = 32
theorem Ds.keep {w w' : World} {a : Option Addr} {n c : Nat} {L : List (List Int)} (h : Ds w a n c L) (hk : ∀ g off, a = some ⟨g, off, none⟩ → g < w.heap.size → w'.heap[g]? = w.heap[g]?) : Ds w' a n c L := ⟨h.l, h.nc, h.nil, fun j x hj => by
  obtain ⟨g, off, e, hr⟩ := h.rows j x hj
  exact ⟨g, off, e, range_keep hr (hk g off e)⟩, h.lens⟩
theorem Ds.go {w w' : World} {a : Option Addr} {n c : Nat} {L : List (List Int)} (h : Ds w a n c L) (hb : Below w.heap.size w w') : Ds w' a n c L := h.keep fun g _ _ hl => hb.block g hl
section
variable {a : Act} {w : World}
theorem rd_indexD {x y : Operand} {g off j m c : Nat} {o : Oper} (ho : o.op = .indexAddr 38 x y) (hx : a.eval x = .slice (some ⟨g, off, none⟩) m c) (hy : a.eval y = .int .i64 j) (hj : j < m) : (execOp a.eval o).run Try.prog w = .ok (.value (.pointer (some ⟨g, off + j * 32, none⟩))) w := by
  have hji : (j : Int) < m := by omega
  unfold execOp
  rw [ho]
  simp only [hx, hy]
  go_simp
theorem rd_loadDD {x : Operand} {o : Oper} (ho : o.op = .load 30 x) {b off : Nat} (hx : a.eval x = .pointer (some ⟨b, off, none⟩)) {d : List Int} (hl : d.length = 32) (hc : w.rangeAt b off (d.map (Value.int .u8))) : (execOp a.eval o).run Try.prog w = .ok (.value (.agg (B8 d))) w :=
  rd_loadRow 30 x ho b off hx (d.map (Value.int .u8)) _ hc Try.underlying30 rfl (by rw [List.length_map, hl]; kernel_rfl)
theorem rd_neDig {x y : Operand} {o : Oper} {ds es : List Int} (ho : o.op = .binOp .neq 30 x y 30) (hx : a.eval x = .agg (B8 ds)) (hy : a.eval y = .agg (B8 es)) (hl : ds.length = 32) (hl2 : es.length = 32) {q : Bool} (hq : (ds == es) = q) : (execOp a.eval o).run Try.prog w = .ok (.value (.bool (!q))) w := by
  have e := eqD ds es hl hl2
  rw [hq] at e
  unfold execOp
  rw [ho]
  simp only [hx, hy]
  go_simp
end
theorem take_step {α : Type} {L M : List α} {j : Nat} {x y : α} (h : L.take j = M.take j) (hx : L[j]? = some x) (hy : M[j]? = some y) (e : x = y) : L.take (j + 1) = M.take (j + 1) := by
  rw [List.take_add_one, List.take_add_one, hx, hy, h, e]
set_option maxHeartbeats 4000000 in
theorem same_any {a b : Option Addr} {n c m k : Nat} {L M : List (List Int)} {w : World} (h : Ds w a n c L) (h2 : Ds w b m k M) :
    Calls Try.prog 12 #[.slice a n c, .slice b m k] w fun e w' => e = .returned (.bool (decide (L = M))) ∧ Below w.heap.size w w' := by
  have HA := Hid.mk h
  have HB := Hid.mk h2
  have HLA := Hid.mk h.l
  have HLB := Hid.mk h2.l
  have hnc := h.nc
  have hmk := h2.nc
  unfold maxLen at hnc hmk
  clear h h2
  by_cases hnm : n = m
  · subst hnm
    go_enter Try.func12, Try.ntmps12
    go_wp2_with fail
    go_loopw [13] (fun s13 u => ∃ j : Nat, j ≤ n ∧ s13 = .int .i64 j ∧ L.take j = M.take j ∧ Below w.heap.size w u) (fun s13 _ => n - (intOf s13).toNat)
    case atStart => exact ⟨0, by omega, rfl, rfl, Below.refl _ _⟩
    case round =>
      obtain ⟨j, hj, rfl, hf, hbe⟩ := hrel
      have HF := Hid.mk hf
      have HBE := Hid.mk hbe
      clear hf hbe
      by_cases hlt : j < n
      · have hji : (j : Int) < n := by omega
        obtain ⟨x, hx⟩ : ∃ x, L[j]? = some x := ⟨_, List.getElem?_eq_getElem (by rw [← HLA.out]; exact hlt)⟩
        obtain ⟨y, hy⟩ : ∃ y, M[j]? = some y := ⟨_, List.getElem?_eq_getElem (by rw [← HLB.out]; exact hlt)⟩
        obtain ⟨g, off, ha, hr⟩ := HA.out.rows j x hx
        obtain ⟨g', off', hb, hr'⟩ := HB.out.rows j y hy
        have HXL := Hid.mk (HA.out.lens x (List.mem_of_getElem? hx))
        have HYL := Hid.mk (HB.out.lens y (List.mem_of_getElem? hy))
        have HR := Hid.mk hr
        have HR' := Hid.mk hr'
        have HX := Hid.mk hx
        have HY := Hid.mk hy
        subst ha hb
        clear hr hr' hx hy
        obtain ⟨q, hq⟩ : ∃ q, (x == y) = q := ⟨_, rfl⟩
        have HQ := Hid.mk hq
        clear hq
        go_upto_region 6 with fail
        rename_i KK hkk
        refine wp_region_held_drew (S := fun v' => Below w.heap.size w v') (by kernel_rfl) HBE.out.drew (fun hS => ?_)
        refine rd_take 0 16 (.slice (some ⟨g, off, none⟩) n c) rfl rfl (by kernel_rfl) (by kernel_rfl) (by kernel_rfl) (fun _ _ _ h => h) (by kernel_rfl) (fun v _ => by kernel_rfl) hS ?_
        refine rd_take 1 17 (.int .i64 j) rfl rfl (by kernel_rfl) (by kernel_rfl) (by kernel_rfl) (fun _ _ _ h => h) (by kernel_rfl) (fun v _ => by kernel_rfl) hS ?_
        refine rd_take 2 18 (.pointer (some ⟨g, off + j * 32, none⟩)) rfl rfl (by kernel_rfl) (by kernel_rfl) (by kernel_rfl) (fun _ _ _ h => h) (by kernel_rfl) (fun v' _ => rd_indexD (m := n) (c := c) rfl (by kernel_rfl) (by kernel_rfl) hlt) hS ?_
        refine rd_take 3 19 (.agg (B8 x)) rfl rfl (by kernel_rfl) (by kernel_rfl) (by kernel_rfl) (fun _ _ _ h => h) (by kernel_rfl) (fun v' hv => rd_loadDD rfl (by kernel_rfl) HXL.out (range_keep HR.out (fun hl => hv.block g hl))) hS ?_
        refine rd_take 4 20 (.slice (some ⟨g', off', none⟩) n k) rfl rfl (by kernel_rfl) (by kernel_rfl) (by kernel_rfl) (fun _ _ _ h => h) (by kernel_rfl) (fun v _ => by kernel_rfl) hS ?_
        refine rd_take 5 21 (.int .i64 j) rfl rfl (by kernel_rfl) (by kernel_rfl) (by kernel_rfl) (fun _ _ _ h => h) (by kernel_rfl) (fun v _ => by kernel_rfl) hS ?_
        refine rd_take 6 22 (.pointer (some ⟨g', off' + j * 32, none⟩)) rfl rfl (by kernel_rfl) (by kernel_rfl) (by kernel_rfl) (fun _ _ _ h => h) (by kernel_rfl) (fun v' _ => rd_indexD (m := n) (c := k) rfl (by kernel_rfl) (by kernel_rfl) hlt) hS ?_
        refine rd_take 7 23 (.agg (B8 y)) rfl rfl (by kernel_rfl) (by kernel_rfl) (by kernel_rfl) (fun _ _ _ h => h) (by kernel_rfl) (fun v' hv => rd_loadDD rfl (by kernel_rfl) HYL.out (range_keep HR'.out (fun hl => hv.block g' hl))) hS ?_
        refine rd_take 8 24 (.bool (!q)) rfl rfl (by kernel_rfl) (by kernel_rfl) (by kernel_rfl) (fun _ _ _ h => h) (by kernel_rfl) (fun v' _ => rd_neDig rfl (by kernel_rfl) (by kernel_rfl) HXL.out HYL.out HQ.out) hS ?_
        refine wpAnyH_done (by kernel_rfl) ?_ _
        refine hkk _ _ ?_
        clear hkk
        have HS := Hid.mk hS
        clear hS HBE
        generalize wr.drew = u at HS ⊢
        go_frame
        cases q with
        | false =>
          have hne : decide (L = M) = false := decide_eq_false (fun e => by
            have h1 := HX.out
            rw [e, HY.out] at h1
            have h2 := HQ.out
            cases h1
            simp at h2)
          have HNE := Hid.mk hne
          clear hne
          go_wp2_with fail
          go_ret
          exact ⟨by rw [HNE.out]; rfl, HS.out⟩
        | true =>
          have HN := Hid.mk (take_step HF.out HX.out HY.out (by simpa using HQ.out))
          go_wp2_with fail
          exact ⟨⟨j + 1, by omega, by simp, HN.out, HS.out⟩, by simp [intOf]; omega⟩
      · have hji : ¬ (j : Int) < n := by omega
        have heq : decide (L = M) = true := decide_eq_true (by
          have hf := HF.out
          rwa [List.take_of_length_le (by rw [← HLA.out]; omega), List.take_of_length_le (by rw [← HLB.out]; omega)] at hf)
        have HEQ := Hid.mk heq
        clear heq
        go_wp2_with fail
        go_ret
        exact ⟨by rw [HEQ.out]; rfl, HBE.out⟩
  · have hne : decide (L = M) = false := decide_eq_false (fun e => hnm (by rw [HLA.out, HLB.out, e]))
    have HNE := Hid.mk hne
    have hni : ¬ (n : Int) = m := by omega
    clear hne
    go_enter Try.func12, Try.ntmps12
    go_wp2_with fail
    go_ret
    exact ⟨by rw [HNE.out]; rfl, Below.refl _ _⟩
end Go.Proofs.Ytjpcfdhkgfaeeaa

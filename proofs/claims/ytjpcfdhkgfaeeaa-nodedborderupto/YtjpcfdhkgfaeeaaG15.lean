/- The statement's step, a kind at a time: what else is asked (Len). -/
import Derived.Test.YtjpcfdhkgfaeeaaG14
namespace Go.Proofs.Ytjpcfdhkgfaeeaa
open Go.RowKit
set_option linter.unusedVariables false
set_option maxRecDepth 100000
/-- The boxes, while step goes on. -/
structure Sp (w v : World) (g m : Nat) (most : Int) (L : List Th) (a : Option Addr) (n c : Nat) (x : Cl) : Prop where
  st : Sto v g m most L
  sb : SBx w.heap.size v most a n c
  cb : CBx (w.heap.size + 1) v x
  rb : SBx (w.heap.size + 2) v 0 none 0 0
  ls : Ls v a n c L
  bel : Below w.heap.size w v
theorem Sp.go {w v v' : World} {g m : Nat} {most : Int} {L : List Th} {a : Option Addr} {n c : Nat} {x : Cl} (h : Sp w v g m most L a n c x) (hb : Below v.heap.size v v') : Sp w v' g m most L a n c x := ⟨h.st.go hb, h.sb.go hb, h.cb.go hb, h.rb.go hb, h.ls.go hb, below_go h.bel hb⟩
theorem Sp.drew {w v : World} {g m : Nat} {most : Int} {L : List Th} {a : Option Addr} {n c : Nat} {x : Cl} (h : Sp w v g m most L a n c x) : Sp w v.drew g m most L a n c x := h.go (Below.refl _ _).drew
theorem sp_new {w : World} {g m : Nat} {most : Int} {L : List Th} {a : Option Addr} {n c : Nat} (h : Sto w g m most L) (hl : Ls w a n c L) (x : Cl) : Sp w (((w.alloc (.cells #[.int .i64 most, .slice a n c] 28)).alloc (.cells x.cells.toArray 32)).alloc (.cells #[.int .i64 0, .slice none 0 0] 28)) g m most L a n c x := by
  have s1 : (w.alloc (.cells #[.int .i64 most, .slice a n c] 28)).heap.size = w.heap.size + 1 := by simp
  have s2 : ((w.alloc (.cells #[.int .i64 most, .slice a n c] 28)).alloc (.cells x.cells.toArray 32)).heap.size = w.heap.size + 2 := by simp
  have hb : Below w.heap.size w (((w.alloc (.cells #[.int .i64 most, .slice a n c] 28)).alloc (.cells x.cells.toArray 32)).alloc (.cells #[.int .i64 0, .slice none 0 0] 28)) := below_go (below_go (below_new _ _) (below_new _ _)) (below_new _ _)
  have h1 : SBx w.heap.size (w.alloc (.cells #[.int .i64 most, .slice a n c] 28)) most a n c := heap_alloc_new _ _
  have h2 : CBx (w.heap.size + 1) ((w.alloc (.cells #[.int .i64 most, .slice a n c] 28)).alloc (.cells x.cells.toArray 32)) x := by unfold CBx; rw [← s1]; exact heap_alloc_new _ _
  have h3 : SBx (w.heap.size + 2) (((w.alloc (.cells #[.int .i64 most, .slice a n c] 28)).alloc (.cells x.cells.toArray 32)).alloc (.cells #[.int .i64 0, .slice none 0 0] 28)) 0 none 0 0 := by unfold SBx; rw [← s2]; exact heap_alloc_new _ _
  exact ⟨h.go hb, (h1.go (below_new _ _)).go (below_new _ _), h2.go (below_new _ _), h3, hl.go hb, hb⟩
theorem results_s1 {fn : Func} {p q : Tmp} (h : fn.results = #[.cell p 28, .tmp q]) (tmps : Array Value) (w : World) (gp : Nat) (m : Int) (ia : Option Addr) (n c : Nat) (hp : tmps.getD p undef = .pointer (some ⟨gp, 0, none⟩)) (hg : SBx gp w m ia n c) :
    (results fn tmps).run Try.prog w = .ok (.tuple #[.agg #[.int .i64 m, .slice ia n c], tmps.getD q undef]) w := by
  have hp' : tmps[p]?.getD undef = .pointer (some ⟨gp, 0, none⟩) := by simpa using hp
  have hr := run_loadVar_row (P := Try.prog) w gp 28 28 #[.int .i64 m, .slice ia n c] (0, 0) _ hg Try.underlying28 rfl (by kernel_rfl)
  simp [results, h, hp', asAddr, hr]
set_option maxHeartbeats 8000000 in
theorem step4_any {w : World} {g m : Nat} {most : Int} {L : List Th} {a : Option Addr} {n c : Nat} (h : Sto w g m most L) (hl : Ls w a n c L) (x : Cl) (k0 : ¬ x.k = 0) (k1 : ¬ x.k = 1) (k2 : ¬ x.k = 2) (k3 : ¬ x.k = 3) :
    Calls Try.prog 11 #[.pointer (some ⟨g, 0, none⟩), .agg #[.int .i64 most, .slice a n c], .agg x.cells.toArray] w fun e w' => e = .returned (.tuple #[.agg #[.int .i64 most, .slice a n c], .bool true]) ∧ Sto w' g m most L ∧ Ls w' a n c L ∧ Below w.heap.size w w' := by
  have HP0 := Hid.mk (sp_new h hl x)
  have HLT := Hid.mk h.lts
  have HL := Hid.mk hl.l
  have HA := Hid.mk hl.lt
  clear h hl
  go_enter Try.func11, Try.ntmps11
  go_upto_region 1 with fail
  refine gen_w (p := fun v => Code.wp _ _ _ _ v) (q := fun v => Sp w v g m most L a n c x) HP0.out ?_
  clear HP0
  intro u hP
  have HP := Hid.mk hP
  have c0 := hP.cb.c0
  clear hP
  obtain ⟨k, hk⟩ : ∃ k, x.k = k := ⟨_, rfl⟩
  rw [hk] at c0 k0 k1 k2 k3
  clear hk
  go_upto_region 18 with fail
  rename_i KK hkk
  refine wp_region_held_drew (S := fun v' => Sto v' g m most L ∧ SBx w.heap.size v' most a n c) (by kernel_rfl) ⟨HP.out.drew.st, HP.out.drew.sb⟩ (fun hS => ?_)
  refine rd_take 0 133 (.agg #[.int .i64 most, .slice a n c]) rfl rfl (by kernel_rfl) (by kernel_rfl) (by kernel_rfl) (fun _ _ _ h => h) (by kernel_rfl) (fun v' hv => rd_loadS rfl (by kernel_rfl) hv.2) hS ?_
  refine rd_take 1 134 (.pointer (some ⟨g, 0, none⟩)) rfl rfl (by kernel_rfl) (by kernel_rfl) (by kernel_rfl) (fun _ _ _ h => h) (by kernel_rfl) (fun v _ => by kernel_rfl) hS ?_
  refine rd_take 3 136 (.pointer (some ⟨w.heap.size, 1, none⟩)) rfl rfl (by kernel_rfl) (by kernel_rfl) (by kernel_rfl) (fun _ _ _ h => h) (by kernel_rfl) (fun v _ => by kernel_rfl) hS ?_
  refine rd_take 4 137 (.slice a n c) rfl rfl (by kernel_rfl) (by kernel_rfl) (by kernel_rfl) (fun _ _ _ h => h) (by kernel_rfl) (fun v' hv => rd_loadOL rfl (by kernel_rfl) hv.2.c1) hS ?_
  refine rd_take 5 138 (.int .i64 n) rfl rfl (by kernel_rfl) (by kernel_rfl) (by kernel_rfl) (fun _ _ _ h => h) (by kernel_rfl) (fun v' _ => rd_lenOE (p := a) (c := c) rfl (by kernel_rfl)) hS ?_
  refine wpAnyH_ready (rs := [2]) (by kernel_rfl) (by simp) ?_
  refine rd_call 2 135 rfl rfl (by kernel_rfl) 15 #[.pointer (some ⟨g, 0, none⟩)] (by kernel_rfl) (R := fun val w' => val = .int .i64 L.length ∧ w' = u.drew) ((len_any hS.1).mono (fun e w' h => ⟨_, h.1, rfl, h.2⟩)) (fun val w' h => by rw [h.2]; exact hS) ?_ AllReadyH.nil
  rintro val p0 ⟨rfl, rfl⟩
  refine rd_take 6 139 (.bool true) rfl rfl (by kernel_rfl) (by kernel_rfl) (by kernel_rfl) (fun _ _ _ h => h) (by kernel_rfl) (fun v' _ => rd_eqi rfl (by kernel_rfl) (by kernel_rfl) (show ((L.length : Int) == (n : Int)) = true from by rw [HL.out]; simp)) hS ?_
  have hS3 : Sto (u.drew.setRow (w.heap.size + 2) #[.int .i64 most, .slice a n c]) g m most L ∧ SBx w.heap.size (u.drew.setRow (w.heap.size + 2) #[.int .i64 most, .slice a n c]) most a n c := ⟨⟨(setRow_other _ _ _ _ (by have := HLT.out; omega)).trans hS.1.row, hS.1.mp.keep (fun _ => setRow_other _ _ _ _ (by have := HLT.out; omega)), hS.1.ne⟩, (setRow_other _ _ _ _ (by omega)).trans hS.2⟩
  refine wpAnyH_ready (rs := [7]) (by kernel_rfl) (by simp) ?_
  refine rd_run0 7 rfl rfl (by kernel_rfl) (rd_store 28 _ _ rfl (w.heap.size + 2) #[.int .i64 most, .slice a n c] (by kernel_rfl) (by kernel_rfl) 28 #[.int .i64 0, .slice none 0 0] HP.out.drew.rb (by kernel_rfl) rfl (s_one _ _ _ _)) hS3 ?_ AllReadyH.nil
  refine rd_take 8 7 (.bool true) rfl rfl (by kernel_rfl) (by kernel_rfl) (by kernel_rfl) (fun _ _ _ h => h) (by kernel_rfl) (fun v _ => by kernel_rfl) hS3 ?_
  refine wpAnyH_done (by kernel_rfl) ?_ _
  refine hkk _ _ ?_
  clear hkk
  have HEND := Hid.mk (show SBx (w.heap.size + 2) (u.drew.setRow (w.heap.size + 2) #[.int .i64 most, .slice a n c]) most a n c ∧ Sto (u.drew.setRow (w.heap.size + 2) #[.int .i64 most, .slice a n c]) g m most L ∧ Ls (u.drew.setRow (w.heap.size + 2) #[.int .i64 most, .slice a n c]) a n c L ∧ Below w.heap.size w (u.drew.setRow (w.heap.size + 2) #[.int .i64 most, .slice a n c]) from ⟨setRow_heap _ _ _ _ _ _ HP.out.drew.rb, hS3.1, HP.out.drew.ls.one (fun g off e hn => by have := HA.out g off e hn; omega), Below.setRow HP.out.drew.bel (by omega) _⟩)
  clear hS hS3
  generalize u.drew.setRow (w.heap.size + 2) #[.int .i64 most, .slice a n c] = uE at HEND ⊢
  go_frame
  go_wp2_with fail
  refine bodyPost_ret (results_s1 Try.results11 _ _ (w.heap.size + 2) most a n c rfl HEND.out.1) rfl ?_
  exact ⟨rfl, HEND.out.2⟩
end Go.Proofs.Ytjpcfdhkgfaeeaa
/- The statement's step: Put. -/
namespace Go.Proofs.Ytjpcfdhkgfaeeaa
open Go.RowKit
set_option linter.unusedVariables false
set_option maxRecDepth 100000
theorem Touch.row {m k : Nat} {u v : World} {o : Obj} (t : Touch m u v) (h : u.heap[k]? = some o) (hk : k ≠ m) : v.heap[k]? = some o := (t.block k (lt_of_get h) hk).trans h
theorem Ls.cell {v : World} {a : Option Addr} {n c : Nat} {L : List Th} (h : Ls v a n c L) {j : Nat} {x : Th} (hj : L[j]? = some x) {g off : Nat} (e : a = some ⟨g, off, none⟩) : ∃ u, v.cell? ⟨g, off + j * 34 + 33, none⟩ = some u := by
  obtain ⟨g', off', e', hr⟩ := h.rows j x hj
  rw [e] at e'
  cases e'
  exact ⟨_, hr 33 _ (Th.c33 (h.lens x (List.mem_of_getElem? hj)))⟩
theorem Ls.touch {u v : World} {a : Option Addr} {n c m : Nat} {L L1 : List Th} (h : Ls u a n c L) (hm : MapAt u m L1) (t : Touch m u v) : Ls v a n c L := ⟨h.l, h.nc, h.nil, fun j x hj => by
  obtain ⟨g, off, e, hr⟩ := h.rows j x hj
  refine ⟨g, off, e, range_keep hr (fun hl => t.block g hl (fun q => ?_))⟩
  obtain ⟨y, hy⟩ := h.cell hj e
  obtain ⟨_, es, clock, hm, _⟩ := hm
  rw [q] at hy
  simp [World.cell?, hm] at hy, h.lens⟩
theorem Ls.nbox {v : World} {a : Option Addr} {n c k : Nat} {L : List Th} (h : Ls v a n c L) {C : Array Value} {t : TypeId} (hk : v.heap[k]? = some (.cells C t)) (hC : C.size ≤ 33) : ∀ g off, a = some ⟨g, off, none⟩ → 0 < n → g ≠ k := fun g off e hn q => by
  have hL : 0 < L.length := by rw [← h.l]; exact hn
  obtain ⟨y, hy⟩ := h.cell (List.getElem?_eq_getElem hL) e
  rw [q, cell_of_row _ _ _ _ _ _ hk, Array.getElem?_eq_none (by omega)] at hy
  cases hy
/-- The boxes behind a call of the store's. -/
structure Sq (w v : World) (g m : Nat) (most : Int) (L L1 : List Th) (a : Option Addr) (n c : Nat) (x : Cl) : Prop where
  st : Sto v g m most L1
  sb : SBx w.heap.size v most a n c
  cb : CBx (w.heap.size + 1) v x
  rb : SBx (w.heap.size + 2) v 0 none 0 0
  ls : Ls v a n c L
  tch : Touch m w v
  sz : w.heap.size + 3 ≤ v.heap.size
theorem Sq.go {w v v' : World} {g m : Nat} {most : Int} {L L1 : List Th} {a : Option Addr} {n c : Nat} {x : Cl} (h : Sq w v g m most L L1 a n c x) (hb : Below v.heap.size v v') : Sq w v' g m most L L1 a n c x := ⟨h.st.go hb, h.sb.go hb, h.cb.go hb, h.rb.go hb, h.ls.go hb, h.tch.trans (Touch.of_below hb), Nat.le_trans h.sz hb.size⟩
theorem Sq.drew {w v : World} {g m : Nat} {most : Int} {L L1 : List Th} {a : Option Addr} {n c : Nat} {x : Cl} (h : Sq w v g m most L L1 a n c x) : Sq w v.drew g m most L L1 a n c x := h.go (Below.refl _ _).drew
theorem Sp.sq {w u v : World} {g m : Nat} {most : Int} {L L1 : List Th} {a : Option Addr} {n c : Nat} {x : Cl} (h : Sp w u g m most L a n c x) (hm : m < w.heap.size) (hs : Sto v g m most L1) (t : Touch m u v) : Sq w v g m most L L1 a n c x :=
  ⟨hs, t.row h.sb (by omega), t.row h.cb (by omega), t.row h.rb (by omega), h.ls.touch h.st.mp t, (Touch.of_below h.bel).trans t, Nat.le_trans (lt_of_get h.rb) t.size⟩
/-- What is told at step's end. -/
theorem sq_end {w v : World} {g m : Nat} {most : Int} {L L1 : List Th} {a : Option Addr} {n c : Nat} {x : Cl} (h : Sq w v g m most L L1 a n c x) (hg : g < w.heap.size ∧ m < w.heap.size) {a' : Option Addr} {n' c' : Nat} {L2 : List Th} (hl : Ls v a' n' c' L2) :
    SBx (w.heap.size + 2) (v.setRow (w.heap.size + 2) #[.int .i64 most, .slice a' n' c']) most a' n' c' ∧ Sto (v.setRow (w.heap.size + 2) #[.int .i64 most, .slice a' n' c']) g m most L1 ∧ Ls (v.setRow (w.heap.size + 2) #[.int .i64 most, .slice a' n' c']) a' n' c' L2 ∧ Touch m w (v.setRow (w.heap.size + 2) #[.int .i64 most, .slice a' n' c']) :=
  ⟨setRow_heap _ _ _ _ _ _ h.rb, ⟨(setRow_other _ _ _ _ (by omega)).trans h.st.row, h.st.mp.keep (fun _ => setRow_other _ _ _ _ (by omega)), h.st.ne⟩, hl.one (hl.nbox h.rb (by simp)), ⟨h.tch.os, h.tch.tape, h.tch.output, by simpa using h.tch.size, fun i hi hm => (setRow_other _ _ _ _ (by omega)).trans (h.tch.block i hi hm)⟩⟩
set_option maxHeartbeats 8000000 in
theorem step0_any {w : World} {g m : Nat} {most : Int} {L : List Th} {a : Option Addr} {n c : Nat} (h : Sto w g m most L) (hl : Ls w a n c L) (hv : Iv L) (x : Cl) (k0 : x.k = 0) (hs : x.s.size ≤ 140737488351232) (hn : n ≤ 2199023255549) :
    Calls Try.prog 11 #[.pointer (some ⟨g, 0, none⟩), .agg #[.int .i64 most, .slice a n c], .agg x.cells.toArray] w fun e w' => (∃ a' n' c', e = .returned (.tuple #[.agg #[.int .i64 most, .slice a' n' c'], .bool true]) ∧ Ls w' a' n' c' (putP most x.s L).1) ∧ Sto w' g m most (putP most x.s L).1 ∧ Touch m w w' := by
  have HP0 := Hid.mk (sp_new h hl x)
  have HLT := Hid.mk h.lts
  have HV := Hid.mk hv
  have HSS := Hid.mk hs
  have HN := Hid.mk hn
  have HDL := Hid.mk (putP_len most x.s L)
  clear h hl hv hs hn
  obtain ⟨s, hs⟩ : ∃ s, x.s = s := ⟨_, rfl⟩
  rw [hs] at HSS HDL ⊢
  obtain ⟨⟨L1, d1, e1⟩, hpr⟩ : ∃ y, putP most s L = y := ⟨_, rfl⟩
  rw [hpr] at HDL ⊢
  have HPR := Hid.mk hpr
  have HXS := Hid.mk hs
  clear hpr hs
  simp only at HDL ⊢
  go_enter Try.func11, Try.ntmps11
  go_upto_region 1 with fail
  refine gen_w (p := fun v => Code.wp _ _ _ _ v) (q := fun v => Sp w v g m most L a n c x) HP0.out ?_
  clear HP0
  intro u hP
  have HP := Hid.mk hP
  have c0 := hP.cb.c0
  rw [k0] at c0
  clear hP
  have HPUT := Hid.mk (put_any HP.out.st HV.out.rng HV.out.szs s HSS.out)
  rw [HPR.out] at HPUT
  go_upto_region 3 with fail
  rename_i KK hkk
  refine wp_region_lit ?_
  refine wl_pure 27 (.pointer (some ⟨g, 0, none⟩)) rfl (by kernel_rfl) (by kernel_rfl) ?_
  refine wl_pure 28 (.pointer (some ⟨w.heap.size + 1, 1, none⟩)) rfl (by kernel_rfl) (by kernel_rfl) ?_
  refine wl_pure 29 (.string s) rfl (by kernel_rfl) (rd_loads rfl (by kernel_rfl) (by rw [← HXS.out]; exact HP.out.cb.c1)) ?_
  refine wl_call 30 rfl (by kernel_rfl) 17 #[.pointer (some ⟨g, 0, none⟩), .string s] (by kernel_rfl) (R := fun val w' => val = .tuple #[.agg (B8 d1), .int .i64 e1] ∧ Sto w' g m most L1 ∧ Touch m u w') (HPUT.out.mono (fun e w' h => ⟨_, h.1, rfl, h.2⟩)) ?_
  rintro val u1 ⟨rfl, hst1, ht1⟩
  refine wl_pure 26 (.tuple #[.agg (B8 d1), .int .i64 e1]) rfl (by kernel_rfl) (by kernel_rfl) ?_
  refine wl_pure 31 (.agg (B8 d1)) rfl (by kernel_rfl) (by kernel_rfl) ?_
  refine wl_pure 32 (.int .i64 e1) rfl (by kernel_rfl) (by kernel_rfl) ?_
  refine wl_run 8 (.pointer (some ⟨u1.heap.size, 0, none⟩)) rfl (by kernel_rfl) (rd_allocD rfl) ?_
  refine wl_skip rfl (by kernel_rfl) (rd_store 30 _ _ rfl u1.heap.size (B8 d1) (by kernel_rfl) (by kernel_rfl) 30 (B8 z32) (heap_alloc_new _ _) (infoD d1 HDL.out) (z8_size HDL.out) (B8_ones _)) ?_
  refine wl_pure 9 (.int .i64 e1) rfl (by kernel_rfl) (by kernel_rfl) ?_
  refine hkk _ _ ?_
  have hq1 := HP.out.sq HLT.out.2 hst1 ht1
  have hbD : Below u1.heap.size u1 ((u1.alloc (.cells (B8 z32) 30)).setRow u1.heap.size (B8 d1)) := Below.setRow (below_new _ _) (Nat.le_refl _) _
  have HQ := Hid.mk (hq1.go hbD)
  have HDB := Hid.mk (show DBx u1.heap.size ((u1.alloc (.cells (B8 z32) 30)).setRow u1.heap.size (B8 d1)) d1 from ⟨setRow_heap _ _ _ _ _ _ (heap_alloc_new _ _), HDL.out⟩)
  have HGD := Hid.mk hq1.sz
  generalize (u1.alloc (.cells (B8 z32) 30)).setRow u1.heap.size (B8 d1) = u2 at HQ HDB ⊢
  obtain ⟨gD, hgD⟩ : ∃ gD, u1.heap.size = gD := ⟨_, rfl⟩
  rw [hgD] at HDB HGD ⊢
  clear hkk hq1 hbD hst1 ht1 hgD HPUT HP c0
  go_frame
  have HRP := Hid.mk (rput_any most a n c L s u2 HQ.out.ls HV.out.rng HN.out HSS.out)
  rw [HPR.out] at HRP
  go_upto_region 4 with fail
  rename_i KK hkk
  refine wp_region_lit ?_
  refine wl_pure 34 (.agg #[.int .i64 most, .slice a n c]) rfl (by kernel_rfl) (rd_loadS rfl (by kernel_rfl) HQ.out.sb) ?_
  refine wl_pure 35 (.pointer (some ⟨w.heap.size + 1, 1, none⟩)) rfl (by kernel_rfl) (by kernel_rfl) ?_
  refine wl_pure 36 (.string s) rfl (by kernel_rfl) (rd_loads rfl (by kernel_rfl) (by rw [← HXS.out]; exact HQ.out.cb.c1)) ?_
  refine wl_call 37 rfl (by kernel_rfl) 18 #[.agg #[.int .i64 most, .slice a n c], .string s] (by kernel_rfl) (R := fun val w' => (∃ a' n' c', val = .tuple #[.agg #[.int .i64 most, .slice a' n' c'], .agg (B8 d1), .int .i64 e1] ∧ Ls w' a' n' c' L1) ∧ Below u2.heap.size u2 w') (HRP.out.mono (fun e w' h => by
    obtain ⟨⟨a', n', c', q1, q2⟩, q3⟩ := h
    exact ⟨_, q1, ⟨a', n', c', rfl, q2⟩, q3⟩)) ?_
  rintro val u3 ⟨⟨a', n', c', rfl, hls⟩, hb3⟩
  refine wl_pure 33 (.tuple #[.agg #[.int .i64 most, .slice a' n' c'], .agg (B8 d1), .int .i64 e1]) rfl (by kernel_rfl) (by kernel_rfl) ?_
  refine wl_pure 38 (.agg #[.int .i64 most, .slice a' n' c']) rfl (by kernel_rfl) (by kernel_rfl) ?_
  refine wl_pure 39 (.agg (B8 d1)) rfl (by kernel_rfl) (by kernel_rfl) ?_
  refine wl_pure 40 (.int .i64 e1) rfl (by kernel_rfl) (by kernel_rfl) ?_
  refine wl_run 10 (.pointer (some ⟨u3.heap.size, 0, none⟩)) rfl (by kernel_rfl) (rd_allocS rfl) ?_
  refine wl_run 11 (.pointer (some ⟨(u3.alloc (.cells #[.int .i64 0, .slice none 0 0] 28)).heap.size, 0, none⟩)) rfl (by kernel_rfl) (rd_allocD rfl) ?_
  have s1 : (u3.alloc (.cells #[.int .i64 0, .slice none 0 0] 28)).heap.size = u3.heap.size + 1 := by simp
  have hA : SBx u3.heap.size ((u3.alloc (.cells #[.int .i64 0, .slice none 0 0] 28)).alloc (.cells (B8 z32) 30)) 0 none 0 0 := SBx.go (heap_alloc_new _ _) (below_new _ _)
  have hB : DBx (u3.heap.size + 1) ((u3.alloc (.cells #[.int .i64 0, .slice none 0 0] 28)).alloc (.cells (B8 z32) 30)) z32 := by rw [← s1]; exact dbx_new _ _ rfl
  rw [s1]
  refine wl_skip rfl (by kernel_rfl) (rd_store 28 _ _ rfl u3.heap.size #[.int .i64 most, .slice a' n' c'] (by kernel_rfl) (by kernel_rfl) 28 #[.int .i64 0, .slice none 0 0] hA (by kernel_rfl) rfl (s_one _ _ _ _)) ?_
  refine wl_skip rfl (by kernel_rfl) (rd_store 30 _ _ rfl (u3.heap.size + 1) (B8 d1) (by kernel_rfl) (by kernel_rfl) 30 (B8 z32) ((setRow_other _ _ _ _ (by omega)).trans hB.row) (infoD d1 HDL.out) (z8_size HDL.out) (B8_ones _)) ?_
  refine wl_pure 12 (.int .i64 e1) rfl (by kernel_rfl) (by kernel_rfl) ?_
  refine hkk _ _ ?_
  have hb4 : Below u3.heap.size u3 ((((u3.alloc (.cells #[.int .i64 0, .slice none 0 0] 28)).alloc (.cells (B8 z32) 30)).setRow u3.heap.size #[.int .i64 most, .slice a' n' c']).setRow (u3.heap.size + 1) (B8 d1)) := Below.setRow (Below.setRow (below_go (below_new _ _) (below_new _ _)) (Nat.le_refl _) _) (by omega) _
  have hR4 : SBx u3.heap.size ((((u3.alloc (.cells #[.int .i64 0, .slice none 0 0] 28)).alloc (.cells (B8 z32) 30)).setRow u3.heap.size #[.int .i64 most, .slice a' n' c']).setRow (u3.heap.size + 1) (B8 d1)) most a' n' c' := (setRow_other _ _ _ _ (by omega)).trans (setRow_heap _ _ _ _ _ _ hA)
  have hD4 : DBx (u3.heap.size + 1) ((((u3.alloc (.cells #[.int .i64 0, .slice none 0 0] 28)).alloc (.cells (B8 z32) 30)).setRow u3.heap.size #[.int .i64 most, .slice a' n' c']).setRow (u3.heap.size + 1) (B8 d1)) d1 := ⟨setRow_heap _ _ _ _ _ _ ((setRow_other _ _ _ _ (by omega)).trans hB.row), HDL.out⟩
  have hq3 := HQ.out.go hb3
  have HQ4 := Hid.mk (hq3.go hb4)
  have HDB4 := Hid.mk ((HDB.out.go hb3).go hb4)
  have HR4 := Hid.mk hR4
  have HD4 := Hid.mk hD4
  have HLS := Hid.mk (hls.go hb4)
  have HG4 := Hid.mk hq3.sz
  clear hkk hb3 hb4 hR4 hD4 hq3 hls hA hB s1 HRP HQ HDB
  generalize (((u3.alloc (.cells #[.int .i64 0, .slice none 0 0] 28)).alloc (.cells (B8 z32) 30)).setRow u3.heap.size #[.int .i64 most, .slice a' n' c']).setRow (u3.heap.size + 1) (B8 d1) = u4 at HQ4 HDB4 HR4 HD4 HLS ⊢
  obtain ⟨gR, hgR⟩ : ∃ gR, u3.heap.size = gR := ⟨_, rfl⟩
  rw [hgR] at HR4 HD4 HG4 ⊢
  clear hgR
  go_frame
  go_upto_region 5 with fail
  rename_i KK hkk
  refine wp_region_held_drew (S := fun v' => SBx gR v' most a' n' c' ∧ DBx gD v' d1 ∧ DBx (gR + 1) v' d1) (by kernel_rfl) ⟨HR4.out.go (Below.refl _ _).drew, HDB4.out.go (Below.refl _ _).drew, HD4.out.go (Below.refl _ _).drew⟩ (fun hS => ?_)
  refine rd_take 0 41 (.agg #[.int .i64 most, .slice a' n' c']) rfl rfl (by kernel_rfl) (by kernel_rfl) (by kernel_rfl) (fun _ _ _ h => h) (by kernel_rfl) (fun v' hv => rd_loadS rfl (by kernel_rfl) hv.1) hS ?_
  refine rd_take 1 42 (.agg (B8 d1)) rfl rfl (by kernel_rfl) (by kernel_rfl) (by kernel_rfl) (fun _ _ _ h => h) (by kernel_rfl) (fun v' hv => rd_loadDd rfl (by kernel_rfl) hv.2.1) hS ?_
  refine rd_take 2 43 (.agg (B8 d1)) rfl rfl (by kernel_rfl) (by kernel_rfl) (by kernel_rfl) (fun _ _ _ h => h) (by kernel_rfl) (fun v' hv => rd_loadDd rfl (by kernel_rfl) hv.2.2) hS ?_
  refine rd_take 3 44 (.bool true) rfl rfl (by kernel_rfl) (by kernel_rfl) (by kernel_rfl) (fun _ _ _ h => h) (by kernel_rfl) (fun v' _ => rd_eqDig rfl (by kernel_rfl) (by kernel_rfl) HDL.out HDL.out (show (d1 == d1) = true from by simp)) hS ?_
  refine rd_take 4 45 (.bool true) rfl rfl (by kernel_rfl) (by kernel_rfl) (by kernel_rfl) (fun _ _ _ h => h) (by kernel_rfl) (fun v _ => by kernel_rfl) hS ?_
  refine rd_take 5 46 (.int .i64 e1) rfl rfl (by kernel_rfl) (by kernel_rfl) (by kernel_rfl) (fun _ _ _ h => h) (by kernel_rfl) (fun v _ => by kernel_rfl) hS ?_
  refine rd_take 6 47 (.int .i64 e1) rfl rfl (by kernel_rfl) (by kernel_rfl) (by kernel_rfl) (fun _ _ _ h => h) (by kernel_rfl) (fun v _ => by kernel_rfl) hS ?_
  refine rd_take 7 48 (.bool true) rfl rfl (by kernel_rfl) (by kernel_rfl) (by kernel_rfl) (fun _ _ _ h => h) (by kernel_rfl) (fun v' _ => rd_eqE rfl (by kernel_rfl) (by kernel_rfl) (show (e1 == e1) = true from by simp)) hS ?_
  refine rd_take 8 49 (.bool true) rfl rfl (by kernel_rfl) (by kernel_rfl) (by kernel_rfl) (fun _ _ _ h => h) (by kernel_rfl) (fun v _ => by kernel_rfl) hS ?_
  have hS3 : SBx gR (u4.drew.setRow (w.heap.size + 2) #[.int .i64 most, .slice a' n' c']) most a' n' c' ∧ DBx gD (u4.drew.setRow (w.heap.size + 2) #[.int .i64 most, .slice a' n' c']) d1 ∧ DBx (gR + 1) (u4.drew.setRow (w.heap.size + 2) #[.int .i64 most, .slice a' n' c']) d1 := ⟨(setRow_other _ _ _ _ (by have := HG4.out; omega)).trans hS.1, ⟨(setRow_other _ _ _ _ (by have := HGD.out; omega)).trans hS.2.1.row, HDL.out⟩, ⟨(setRow_other _ _ _ _ (by have := HG4.out; omega)).trans hS.2.2.row, HDL.out⟩⟩
  refine wpAnyH_ready (rs := [9]) (by kernel_rfl) (by simp) ?_
  refine rd_run0 9 rfl rfl (by kernel_rfl) (rd_store 28 _ _ rfl (w.heap.size + 2) #[.int .i64 most, .slice a' n' c'] (by kernel_rfl) (by kernel_rfl) 28 #[.int .i64 0, .slice none 0 0] HQ4.out.drew.rb (by kernel_rfl) rfl (s_one _ _ _ _)) hS3 ?_ AllReadyH.nil
  refine rd_take 10 7 (.bool true) rfl rfl (by kernel_rfl) (by kernel_rfl) (by kernel_rfl) (fun _ _ _ h => h) (by kernel_rfl) (fun v _ => by kernel_rfl) hS3 ?_
  refine wpAnyH_done (by kernel_rfl) ?_ _
  refine hkk _ _ ?_
  clear hkk
  have HEND := Hid.mk (sq_end HQ4.out.drew HLT.out (HLS.out.go (Below.refl _ _).drew))
  clear hS hS3 HQ4 HDB4 HR4 HD4 HLS
  generalize u4.drew.setRow (w.heap.size + 2) #[.int .i64 most, .slice a' n' c'] = uE at HEND ⊢
  go_frame
  go_wp2_with fail
  refine bodyPost_ret (results_s1 Try.results11 _ _ (w.heap.size + 2) most a' n' c' rfl HEND.out.1) rfl ?_
  exact ⟨⟨a', n', c', rfl, HEND.out.2.2.1⟩, HEND.out.2.1, HEND.out.2.2.2⟩
end Go.Proofs.Ytjpcfdhkgfaeeaa

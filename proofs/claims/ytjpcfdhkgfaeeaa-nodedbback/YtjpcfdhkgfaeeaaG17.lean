/- The statement's step: Drop. -/
import Derived.Test.YtjpcfdhkgfaeeaaG15
import Derived.Test.YtjpcfdhkgfaeeaaG16
namespace Go.Proofs.Ytjpcfdhkgfaeeaa
open Go.RowKit
set_option linter.unusedVariables false
set_option maxRecDepth 100000
theorem results_s1' {fn : Func} {p q : Tmp} {f : Nat → Value} (h : fn.results = #[.cell p 28, .tmp q]) (v : Bool) (w : World) (gp : Nat) (m : Int) (ia : Option Addr) (n c : Nat) (hp : f p = .pointer (some ⟨gp, 0, none⟩)) (hg : SBx gp w m ia n c) (hq : f q = .bool v := by rfl) :
    (resF f fn.results).run Try.prog w = .ok (.tuple #[.agg #[.int .i64 m, .slice ia n c], .bool v]) w := by
  have := run_loadVar_row (P := Try.prog) w gp 28 28 _ _ _ hg Try.underlying28 rfl (by kernel_rfl)
  unfold resF
  rw [h]
  simp [hp, hq, this, asAddr]
theorem Sq.setbox {w v v' : World} {g m : Nat} {most : Int} {L L1 : List Th} {a : Option Addr} {n c : Nat} {x : Cl} (h : Sq w v g m most L L1 a n c x) (hg : g < w.heap.size ∧ m < w.heap.size) {k : Nat} {most' : Int} {a' : Option Addr} {n' c' : Nat} (hk : SBx k v most' a' n' c') (hw : w.heap.size + 3 ≤ k) {C : Array Value} (hp : Put v v' k C) : Sq w v' g m most L L1 a n c x := by
  obtain ⟨rfl⟩ := hp
  exact ⟨⟨(setRow_other _ _ _ _ (by omega)).trans h.st.row, h.st.mp.keep (fun _ => setRow_other _ _ _ _ (by omega)), h.st.ne⟩, (setRow_other _ _ _ _ (by omega)).trans h.sb, (setRow_other _ _ _ _ (by omega)).trans h.cb, (setRow_other _ _ _ _ (by omega)).trans h.rb, h.ls.one (h.ls.nbox hk (by simp)), ⟨h.tch.os, h.tch.tape, h.tch.output, by simpa using h.tch.size, fun i hi hm => (setRow_other _ _ _ _ (by omega)).trans (h.tch.block i hi hm)⟩, by simpa using h.sz⟩
set_option maxHeartbeats 4000000 in
theorem step1_any {w : World} {g m : Nat} {most : Int} {L : List Th} {a : Option Addr} {n c : Nat} (h : Sto w g m most L) (hl : Ls w a n c L) (hv : Iv L) (x : Cl) (k0 : x.k = 1) (hd : x.d.length = 32) (hs : x.s.size ≤ 140737488351232) (hn : n ≤ 2199023255549) :
    Calls Try.prog 11 #[.pointer (some ⟨g, 0, none⟩), .agg #[.int .i64 most, .slice a n c], .agg x.cells.toArray] w fun e w' => (∃ a' n' c', e = .returned (.tuple #[.agg #[.int .i64 most, .slice a' n' c'], .bool true]) ∧ Ls w' a' n' c' (dropT x.nm L).1) ∧ Sto w' g m most (dropT x.nm L).1 ∧ Touch m w w' := by
  have hlt := h.lts
  obtain ⟨d, hnm⟩ : ∃ d, x.nm = d := ⟨_, rfl⟩
  have hdl : d.length = 32 := by rw [← hnm]; exact Cl.nml hd
  rw [hnm]
  have hdr : ∀ v, Ls v a n c L → _ := fun v hv' => rdrop_any most a n c L d hdl v hv' hv.rng hn
  obtain ⟨⟨L1, b1, e1⟩, hpr⟩ : ∃ y, dropT d L = y := ⟨_, rfl⟩
  rw [hpr] at hdr ⊢
  simp only at hdr ⊢
  refine cw_enter Try.func11 rfl 140 rfl ?_
  show CW _ _ _ _ _ _ _ [(0, .pointer (some ⟨g, 0, none⟩)), (1, .agg #[.int .i64 most, .slice a n c]), (2, .agg x.cells.toArray)] _
  refine cw_seq ?_
  refine cw_region ?_
  refine rw_new 4 (#[.int .i64 most, .slice a n c]) 28 (fun _ => by kernel_rfl) (fun _ => by kernel_rfl) ?_
  intro w1 g2 hn3
  refine rw_new 5 x.cells.toArray 32 (fun _ => by kernel_rfl) (fun _ => by kernel_rfl) ?_
  intro w4 g5 hn6
  refine rw_new 6 (#[.int .i64 0, .slice none 0 0]) 28 (fun _ => by kernel_rfl) (fun _ => by kernel_rfl) ?_
  intro w7 g8 hn9
  refine rw_p 7 (.bool false) (fun _ => by kernel_rfl) (fun _ => by kernel_rfl) ?_
  refine rw_nil ?_
  have hP : Sp w w7 g m most L a n c x := by rw [hn9.hw, hn6.hw, hn3.hw]; exact sp_new h hl x
  obtain rfl : g2 = w.heap.size := hn3.hg
  obtain rfl : g5 = w.heap.size + 1 := by rw [hn6.hg, hn3.size]
  obtain rfl : g8 = w.heap.size + 2 := by rw [hn9.hg, hn6.size]
  clear hn9 hn6 hn3
  refine nw_sub [(6, .pointer (some ⟨w.heap.size + 2, 0, none⟩)), (5, .pointer (some ⟨w.heap.size + 1, 0, none⟩)), (4, .pointer (some ⟨w.heap.size, 0, none⟩)), (0, .pointer (some ⟨g, 0, none⟩))] (by exact ⟨fun _ => by kernel_rfl, ⟨fun _ => by kernel_rfl, ⟨fun _ => by kernel_rfl, ⟨fun _ => by kernel_rfl, trivial⟩⟩⟩⟩) ?_
  refine nw_then ?_
  refine cw_seq ?_
  refine cw_seq ?_
  refine cw_region ?_
  refine rw_p 22 (.pointer (some ⟨w.heap.size + 1, 0, none⟩)) (fun _ => by kernel_rfl) (fun _ => by kernel_rfl) ?_
  refine rw_p 23 (.int .i64 1) (fun _ => by kernel_rfl) (fun _ => ol_cell 3 _ _ _ _ rfl (by kernel_rfl) (by rw [hP.cb.c0, k0]) Try.underlying3 rfl) ?_
  refine rw_nil ?_
  refine nw_then ?_
  refine cw_block ?_
  refine cw_seq ?_
  refine cw_region ?_
  refine rw_p 25 (.bool false) (fun _ => by kernel_rfl) (fun _ => by kernel_rfl) ?_
  refine rw_p 24 (.bool false) (fun _ => by kernel_rfl) (fun _ => by kernel_rfl) ?_
  refine rw_nil ?_
  refine nw_then ?_
  refine cw_cond_f (fun _ => by kernel_rfl) ?_
  refine cw_seq ?_
  refine cw_region ?_
  refine rw_p 51 (.bool true) (fun _ => by kernel_rfl) (fun _ => by kernel_rfl) ?_
  refine rw_p 50 (.bool true) (fun _ => by kernel_rfl) (fun _ => by kernel_rfl) ?_
  refine rw_nil ?_
  refine nw_then ?_
  refine cw_cond_t (fun _ => by kernel_rfl) ?_
  refine cw_seq ?_
  refine cw_region ?_
  refine rw_p 53 (.pointer (some ⟨g, 0, none⟩)) (fun _ => by kernel_rfl) (fun _ => by kernel_rfl) ?_
  refine rw_p 54 (.agg x.cells.toArray) (fun _ => by kernel_rfl) (fun _ => ol_row 32 _ _ _ _ _ _ rfl (by kernel_rfl) hP.cb Try.underlying32 rfl (by rw [List.size_toArray, Cl.clen hd]; kernel_rfl)) ?_
  refine rw_call 55 25 #[.agg x.cells.toArray] (fun _ => by kernel_rfl) (fun _ => by kernel_rfl) (R := fun val w' => val = .agg (B8 d) ∧ Below (w7).heap.size (w7) w') ((name_any x hd hs (w7)).mono (fun e w' h => ⟨_, by rw [h.1, hnm], rfl, h.2⟩)) ?_
  rintro val u10 ⟨rfl, hb11⟩
  replace hP := hP.go hb11
  have hdrp := drop_any hP.st hv.rng d hdl
  rw [hpr] at hdrp
  refine rw_call 56 21 #[.pointer (some ⟨g, 0, none⟩), .agg (B8 d)] (fun _ => by kernel_rfl) (fun _ => by kernel_rfl) (R := fun val w' => val = .tuple #[.bool b1, .int .i64 e1] ∧ Sto w' g m most L1 ∧ Touch m u10 w') (hdrp.mono (fun e w' h => ⟨_, h.1, rfl, h.2⟩)) ?_
  rintro val u12 ⟨rfl, hst1, ht1⟩
  have hQ := hP.sq hlt.2 hst1 ht1
  clear hP hdrp hst1 ht1
  refine rw_p 52 (.tuple #[.bool b1, .int .i64 e1]) (fun _ => by kernel_rfl) (fun _ => by kernel_rfl) ?_
  refine rw_p 57 (.bool b1) (fun _ => by kernel_rfl) (fun _ => by kernel_rfl) ?_
  refine rw_p 58 (.int .i64 e1) (fun _ => by kernel_rfl) (fun _ => by kernel_rfl) ?_
  refine rw_p 13 (.bool b1) (fun _ => by kernel_rfl) (fun _ => by kernel_rfl) ?_
  refine rw_p 14 (.int .i64 e1) (fun _ => by kernel_rfl) (fun _ => by kernel_rfl) ?_
  refine rw_nil ?_
  refine nw_then ?_
  refine cw_seq ?_
  refine cw_cut (fun e w' => ∃ (gR : Nat) (a' : Option Addr) (n' c' : Nat), e = [(17, .int .i64 e1), (16, .bool b1), (15, .pointer (some ⟨gR, 0, none⟩)), (14, .int .i64 e1), (13, .bool b1), (0, .pointer (some ⟨g, 0, none⟩)), (4, .pointer (some ⟨w.heap.size, 0, none⟩)), (5, .pointer (some ⟨w.heap.size + 1, 0, none⟩)), (6, .pointer (some ⟨w.heap.size + 2, 0, none⟩))] ∧ Sq w w' g m most L L1 a n c x ∧ SBx gR w' most a' n' c' ∧ w.heap.size + 3 ≤ gR ∧ Ls w' a' n' c' L1) ?_ ?_
  · skip
    refine cw_draw (fun v => Sq w v g m most L L1 a n c x) (by kernel_rfl) (hQ.drew) ?_
    refine dw_take 0 60 (.agg #[.int .i64 most, .slice a n c]) rfl (by kernel_rfl) (fun _ _ _ h => h) (fun _ => by kernel_rfl) (fun v hv _ => ol_row 28 _ _ _ _ _ _ rfl (by kernel_rfl) hv.sb Try.underlying28 rfl (by kernel_rfl)) hQ.drew ?_
    refine dw_take 1 61 (.agg x.cells.toArray) rfl (by kernel_rfl) (fun _ _ _ h => h) (fun _ => by kernel_rfl) (fun v hv _ => ol_row 32 _ _ _ _ _ _ rfl (by kernel_rfl) hv.cb Try.underlying32 rfl (by rw [List.size_toArray, Cl.clen hd]; kernel_rfl)) hQ.drew ?_
    refine dw_ready [2, 8] (by kernel_rfl) (by simp) ?_
    refine ar_call 2 62 25 #[.agg x.cells.toArray] rfl (fun _ => by kernel_rfl) (fun _ => by kernel_rfl) (R := fun val w' => val = .agg (B8 d) ∧ Below (u12.drew).heap.size (u12.drew) w') ((name_any x hd hs (u12.drew)).mono (fun e w' h => ⟨_, by rw [h.1, hnm], rfl, h.2⟩)) (fun val w' h => hQ.drew.go h.2) ?_ ?_
    · skip
      rintro val u13 ⟨rfl, hb14⟩
      have Su13 := hQ.drew.go hb14
      refine dw_ready [3, 8] (by kernel_rfl) (by simp) ?_
      refine ar_call 3 63 26 #[.agg #[.int .i64 most, .slice a n c], .agg (B8 d)] rfl (fun _ => by kernel_rfl) (fun _ => by kernel_rfl) (R := fun val w' => (∃ a' n' c', val = .tuple #[.agg #[.int .i64 most, .slice a' n' c'], .bool b1, .int .i64 e1] ∧ Ls w' a' n' c' L1) ∧ Below (u13).heap.size (u13) w') ((hdr (u13) Su13.ls).mono (fun e w' h => by obtain ⟨⟨a', n', c', q1, q2⟩, q3⟩ := h; exact ⟨_, q1, ⟨a', n', c', rfl, q2⟩, q3⟩)) (fun val w' h => Su13.go h.2) ?_ ?_
      · skip
        rintro val u15 ⟨⟨a', n', c', rfl, hls⟩, hb16⟩
        have Su15 := Su13.go hb16
        have hlsu15 := hls
        refine dw_take 4 59 (.tuple #[.agg #[.int .i64 most, .slice a' n' c'], .bool b1, .int .i64 e1]) rfl (by kernel_rfl) (fun _ _ _ h => h) (fun _ => by kernel_rfl) (fun v hv _ => by kernel_rfl) Su15 ?_
        refine dw_take 5 64 (.agg #[.int .i64 most, .slice a' n' c']) rfl (by kernel_rfl) (fun _ _ _ h => h) (fun _ => by kernel_rfl) (fun v hv _ => by kernel_rfl) Su15 ?_
        refine dw_take 6 65 (.bool b1) rfl (by kernel_rfl) (fun _ _ _ h => h) (fun _ => by kernel_rfl) (fun v hv _ => by kernel_rfl) Su15 ?_
        refine dw_take 7 66 (.int .i64 e1) rfl (by kernel_rfl) (fun _ _ _ h => h) (fun _ => by kernel_rfl) (fun v hv _ => by kernel_rfl) Su15 ?_
        refine dw_ready [8] (by kernel_rfl) (by simp) ?_
        refine ar_new 8 15 (#[.int .i64 0, .slice none 0 0]) 28 rfl (fun _ => by kernel_rfl) (fun _ => by kernel_rfl) (fun w' g h => Su15.go h.below) ?_ ar_nil
        intro w17 g18 hn19
        have Sw17 := Su15.go hn19.below
        have Bw17 : SBx g18 w17 0 none 0 0 := hn19.row
        have hgw17 : w.heap.size + 3 ≤ g18 := by have h1 := Su15.sz; have h2 := hn19.hg; omega
        replace hlsu15 := hlsu15.go hn19.below
        refine dw_ready [9] (by kernel_rfl) (by simp) ?_
        refine ar_put 9 g18 (#[.int .i64 most, .slice a' n' c']) rfl (fun _ => by kernel_rfl) (fun _ => ol_store 28 _ _ _ _ _ _ rfl (by kernel_rfl) (by kernel_rfl) Bw17 (by kernel_rfl) rfl (s_one _ _ _ _)) (fun w' h => Sw17.setbox hlt Bw17 hgw17 h) ?_ ar_nil
        intro w20 hp21
        have Sw20 := Sw17.setbox hlt Bw17 hgw17 hp21
        have BF : SBx g18 w20 most a' n' c' := hp21.row Bw17
        have LF : Ls w20 a' n' c' L1 := by obtain ⟨rfl⟩ := hp21; exact hlsu15.one (hlsu15.nbox Bw17 (by simp))
        refine dw_take 10 16 (.bool b1) rfl (by kernel_rfl) (fun _ _ _ h => h) (fun _ => by kernel_rfl) (fun v hv _ => by kernel_rfl) Sw20 ?_
        refine dw_take 11 17 (.int .i64 e1) rfl (by kernel_rfl) (fun _ _ _ h => h) (fun _ => by kernel_rfl) (fun v hv _ => by kernel_rfl) Sw20 ?_
        refine dw_done (by kernel_rfl) ?_
        exact nw_cut [(17, .int .i64 e1), (16, .bool b1), (15, .pointer (some ⟨g18, 0, none⟩)), (14, .int .i64 e1), (13, .bool b1), (0, .pointer (some ⟨g, 0, none⟩)), (4, .pointer (some ⟨w.heap.size, 0, none⟩)), (5, .pointer (some ⟨w.heap.size + 1, 0, none⟩)), (6, .pointer (some ⟨w.heap.size + 2, 0, none⟩))] (by exact ⟨fun _ => by kernel_rfl, ⟨fun _ => by kernel_rfl, ⟨fun _ => by kernel_rfl, ⟨fun _ => by kernel_rfl, ⟨fun _ => by kernel_rfl, ⟨fun _ => by kernel_rfl, ⟨fun _ => by kernel_rfl, ⟨fun _ => by kernel_rfl, ⟨fun _ => by kernel_rfl, trivial⟩⟩⟩⟩⟩⟩⟩⟩⟩) ⟨g18, a', n', c', rfl, Sw20, BF, hgw17, LF⟩
      refine ar_new 8 15 (#[.int .i64 0, .slice none 0 0]) 28 rfl (fun _ => by kernel_rfl) (fun _ => by kernel_rfl) (fun w' g h => Su13.go h.below) ?_ ar_nil
      intro w22 g23 hn24
      have Sw22 := Su13.go hn24.below
      have Bw22 : SBx g23 w22 0 none 0 0 := hn24.row
      have hgw22 : w.heap.size + 3 ≤ g23 := by have h1 := Su13.sz; have h2 := hn24.hg; omega
      refine dw_ready [3] (by kernel_rfl) (by simp) ?_
      refine ar_call 3 63 26 #[.agg #[.int .i64 most, .slice a n c], .agg (B8 d)] rfl (fun _ => by kernel_rfl) (fun _ => by kernel_rfl) (R := fun val w' => (∃ a' n' c', val = .tuple #[.agg #[.int .i64 most, .slice a' n' c'], .bool b1, .int .i64 e1] ∧ Ls w' a' n' c' L1) ∧ Below (w22).heap.size (w22) w') ((hdr (w22) Sw22.ls).mono (fun e w' h => by obtain ⟨⟨a', n', c', q1, q2⟩, q3⟩ := h; exact ⟨_, q1, ⟨a', n', c', rfl, q2⟩, q3⟩)) (fun val w' h => Sw22.go h.2) ?_ ar_nil
      rintro val u25 ⟨⟨a', n', c', rfl, hls⟩, hb26⟩
      have Su25 := Sw22.go hb26
      have hlsu25 := hls
      have Bu25 := Bw22.go hb26
      refine dw_take 4 59 (.tuple #[.agg #[.int .i64 most, .slice a' n' c'], .bool b1, .int .i64 e1]) rfl (by kernel_rfl) (fun _ _ _ h => h) (fun _ => by kernel_rfl) (fun v hv _ => by kernel_rfl) Su25 ?_
      refine dw_take 5 64 (.agg #[.int .i64 most, .slice a' n' c']) rfl (by kernel_rfl) (fun _ _ _ h => h) (fun _ => by kernel_rfl) (fun v hv _ => by kernel_rfl) Su25 ?_
      refine dw_take 6 65 (.bool b1) rfl (by kernel_rfl) (fun _ _ _ h => h) (fun _ => by kernel_rfl) (fun v hv _ => by kernel_rfl) Su25 ?_
      refine dw_take 7 66 (.int .i64 e1) rfl (by kernel_rfl) (fun _ _ _ h => h) (fun _ => by kernel_rfl) (fun v hv _ => by kernel_rfl) Su25 ?_
      refine dw_ready [9] (by kernel_rfl) (by simp) ?_
      refine ar_put 9 g23 (#[.int .i64 most, .slice a' n' c']) rfl (fun _ => by kernel_rfl) (fun _ => ol_store 28 _ _ _ _ _ _ rfl (by kernel_rfl) (by kernel_rfl) Bu25 (by kernel_rfl) rfl (s_one _ _ _ _)) (fun w' h => Su25.setbox hlt Bu25 hgw22 h) ?_ ar_nil
      intro w27 hp28
      have Sw27 := Su25.setbox hlt Bu25 hgw22 hp28
      have BF : SBx g23 w27 most a' n' c' := hp28.row Bu25
      have LF : Ls w27 a' n' c' L1 := by obtain ⟨rfl⟩ := hp28; exact hlsu25.one (hlsu25.nbox Bu25 (by simp))
      refine dw_take 10 16 (.bool b1) rfl (by kernel_rfl) (fun _ _ _ h => h) (fun _ => by kernel_rfl) (fun v hv _ => by kernel_rfl) Sw27 ?_
      refine dw_take 11 17 (.int .i64 e1) rfl (by kernel_rfl) (fun _ _ _ h => h) (fun _ => by kernel_rfl) (fun v hv _ => by kernel_rfl) Sw27 ?_
      refine dw_done (by kernel_rfl) ?_
      exact nw_cut [(17, .int .i64 e1), (16, .bool b1), (15, .pointer (some ⟨g23, 0, none⟩)), (14, .int .i64 e1), (13, .bool b1), (0, .pointer (some ⟨g, 0, none⟩)), (4, .pointer (some ⟨w.heap.size, 0, none⟩)), (5, .pointer (some ⟨w.heap.size + 1, 0, none⟩)), (6, .pointer (some ⟨w.heap.size + 2, 0, none⟩))] (by exact ⟨fun _ => by kernel_rfl, ⟨fun _ => by kernel_rfl, ⟨fun _ => by kernel_rfl, ⟨fun _ => by kernel_rfl, ⟨fun _ => by kernel_rfl, ⟨fun _ => by kernel_rfl, ⟨fun _ => by kernel_rfl, ⟨fun _ => by kernel_rfl, ⟨fun _ => by kernel_rfl, trivial⟩⟩⟩⟩⟩⟩⟩⟩⟩) ⟨g23, a', n', c', rfl, Sw27, BF, hgw22, LF⟩
    refine ar_new 8 15 (#[.int .i64 0, .slice none 0 0]) 28 rfl (fun _ => by kernel_rfl) (fun _ => by kernel_rfl) (fun w' g h => hQ.drew.go h.below) ?_ ar_nil
    intro w29 g30 hn31
    have Sw29 := hQ.drew.go hn31.below
    have Bw29 : SBx g30 w29 0 none 0 0 := hn31.row
    have hgw29 : w.heap.size + 3 ≤ g30 := by have h1 := hQ.drew.sz; have h2 := hn31.hg; omega
    refine dw_ready [2] (by kernel_rfl) (by simp) ?_
    refine ar_call 2 62 25 #[.agg x.cells.toArray] rfl (fun _ => by kernel_rfl) (fun _ => by kernel_rfl) (R := fun val w' => val = .agg (B8 d) ∧ Below (w29).heap.size (w29) w') ((name_any x hd hs (w29)).mono (fun e w' h => ⟨_, by rw [h.1, hnm], rfl, h.2⟩)) (fun val w' h => Sw29.go h.2) ?_ ar_nil
    rintro val u32 ⟨rfl, hb33⟩
    have Su32 := Sw29.go hb33
    have Bu32 := Bw29.go hb33
    refine dw_ready [3] (by kernel_rfl) (by simp) ?_
    refine ar_call 3 63 26 #[.agg #[.int .i64 most, .slice a n c], .agg (B8 d)] rfl (fun _ => by kernel_rfl) (fun _ => by kernel_rfl) (R := fun val w' => (∃ a' n' c', val = .tuple #[.agg #[.int .i64 most, .slice a' n' c'], .bool b1, .int .i64 e1] ∧ Ls w' a' n' c' L1) ∧ Below (u32).heap.size (u32) w') ((hdr (u32) Su32.ls).mono (fun e w' h => by obtain ⟨⟨a', n', c', q1, q2⟩, q3⟩ := h; exact ⟨_, q1, ⟨a', n', c', rfl, q2⟩, q3⟩)) (fun val w' h => Su32.go h.2) ?_ ar_nil
    rintro val u34 ⟨⟨a', n', c', rfl, hls⟩, hb35⟩
    have Su34 := Su32.go hb35
    have hlsu34 := hls
    have Bu34 := Bu32.go hb35
    refine dw_take 4 59 (.tuple #[.agg #[.int .i64 most, .slice a' n' c'], .bool b1, .int .i64 e1]) rfl (by kernel_rfl) (fun _ _ _ h => h) (fun _ => by kernel_rfl) (fun v hv _ => by kernel_rfl) Su34 ?_
    refine dw_take 5 64 (.agg #[.int .i64 most, .slice a' n' c']) rfl (by kernel_rfl) (fun _ _ _ h => h) (fun _ => by kernel_rfl) (fun v hv _ => by kernel_rfl) Su34 ?_
    refine dw_take 6 65 (.bool b1) rfl (by kernel_rfl) (fun _ _ _ h => h) (fun _ => by kernel_rfl) (fun v hv _ => by kernel_rfl) Su34 ?_
    refine dw_take 7 66 (.int .i64 e1) rfl (by kernel_rfl) (fun _ _ _ h => h) (fun _ => by kernel_rfl) (fun v hv _ => by kernel_rfl) Su34 ?_
    refine dw_ready [9] (by kernel_rfl) (by simp) ?_
    refine ar_put 9 g30 (#[.int .i64 most, .slice a' n' c']) rfl (fun _ => by kernel_rfl) (fun _ => ol_store 28 _ _ _ _ _ _ rfl (by kernel_rfl) (by kernel_rfl) Bu34 (by kernel_rfl) rfl (s_one _ _ _ _)) (fun w' h => Su34.setbox hlt Bu34 hgw29 h) ?_ ar_nil
    intro w36 hp37
    have Sw36 := Su34.setbox hlt Bu34 hgw29 hp37
    have BF : SBx g30 w36 most a' n' c' := hp37.row Bu34
    have LF : Ls w36 a' n' c' L1 := by obtain ⟨rfl⟩ := hp37; exact hlsu34.one (hlsu34.nbox Bu34 (by simp))
    refine dw_take 10 16 (.bool b1) rfl (by kernel_rfl) (fun _ _ _ h => h) (fun _ => by kernel_rfl) (fun v hv _ => by kernel_rfl) Sw36 ?_
    refine dw_take 11 17 (.int .i64 e1) rfl (by kernel_rfl) (fun _ _ _ h => h) (fun _ => by kernel_rfl) (fun v hv _ => by kernel_rfl) Sw36 ?_
    refine dw_done (by kernel_rfl) ?_
    exact nw_cut [(17, .int .i64 e1), (16, .bool b1), (15, .pointer (some ⟨g30, 0, none⟩)), (14, .int .i64 e1), (13, .bool b1), (0, .pointer (some ⟨g, 0, none⟩)), (4, .pointer (some ⟨w.heap.size, 0, none⟩)), (5, .pointer (some ⟨w.heap.size + 1, 0, none⟩)), (6, .pointer (some ⟨w.heap.size + 2, 0, none⟩))] (by exact ⟨fun _ => by kernel_rfl, ⟨fun _ => by kernel_rfl, ⟨fun _ => by kernel_rfl, ⟨fun _ => by kernel_rfl, ⟨fun _ => by kernel_rfl, ⟨fun _ => by kernel_rfl, ⟨fun _ => by kernel_rfl, ⟨fun _ => by kernel_rfl, ⟨fun _ => by kernel_rfl, trivial⟩⟩⟩⟩⟩⟩⟩⟩⟩) ⟨g30, a', n', c', rfl, Sw36, BF, hgw29, LF⟩
  rintro e u4 ⟨gR, a', n', c', rfl, hQ4, BF, hgR, LF⟩
  refine nw_then ?_
  refine cw_seq ?_
  refine cw_region ?_
  refine rw_p 67 (.agg #[.int .i64 most, .slice a' n' c']) (fun _ => by kernel_rfl) (fun _ => ol_row 28 _ _ _ _ _ _ rfl (by kernel_rfl) BF Try.underlying28 rfl (by kernel_rfl)) ?_
  refine rw_p 68 (.bool b1) (fun _ => by kernel_rfl) (fun _ => by kernel_rfl) ?_
  refine rw_p 69 (.bool b1) (fun _ => by kernel_rfl) (fun _ => by kernel_rfl) ?_
  refine rw_p 70 (.bool true) (fun _ => by kernel_rfl) (fun _ => ol_eqb 4 _ _ _ b1 b1 rfl (by kernel_rfl) (by kernel_rfl) (by simp)) ?_
  refine rw_p 71 (.bool true) (fun _ => by kernel_rfl) (fun _ => by kernel_rfl) ?_
  refine rw_p 72 (.int .i64 e1) (fun _ => by kernel_rfl) (fun _ => by kernel_rfl) ?_
  refine rw_p 73 (.int .i64 e1) (fun _ => by kernel_rfl) (fun _ => by kernel_rfl) ?_
  refine rw_p 74 (.bool true) (fun _ => by kernel_rfl) (fun _ => ol_conv (v := .bool ((e1 : Int) == (e1 : Int))) (by kernel_rfl) (congrArg Value.bool (by simp))) ?_
  refine rw_p 75 (.bool true) (fun _ => by kernel_rfl) (fun _ => by kernel_rfl) ?_
  refine rw_put (w.heap.size + 2) #[.int .i64 most, .slice a' n' c'] (fun _ => by kernel_rfl) (fun _ => ol_store 28 _ _ _ _ _ _ rfl (by kernel_rfl) (by kernel_rfl) hQ4.rb (by kernel_rfl) rfl (s_one _ _ _ _)) ?_
  intro uE hpE
  have hE := sq_end hQ4 hlt LF
  rw [← hpE.hw] at hE
  refine rw_p 7 (.bool true) (fun _ => by kernel_rfl) (fun _ => by kernel_rfl) ?_
  refine rw_nil ?_
  refine nw_then ?_
  refine cw_ret ?_
  refine nw_ret_block ?_
  refine nw_ret_then ?_
  exact nw_ret_body (.tuple #[.agg #[.int .i64 most, .slice a' n' c'], .bool true]) (fun _ => results_s1' Try.results11 _ _ (w.heap.size + 2) most a' n' c' rfl hE.1) ⟨⟨a', n', c', rfl, hE.2.2.1⟩, hE.2.1, hE.2.2.2⟩
end Go.Proofs.Ytjpcfdhkgfaeeaa
/- The statement's step: Get. -/
namespace Go.Proofs.Ytjpcfdhkgfaeeaa
open Go.RowKit
set_option linter.unusedVariables false
set_option maxRecDepth 100000
/-- Step's boxes, while the last one is written. -/
structure Sr (w v : World) (g m : Nat) (most : Int) (L : List Th) (a : Option Addr) (n c : Nat) (x : Cl) : Prop where
  st : Sto v g m most L
  sb : SBx w.heap.size v most a n c
  cb : CBx (w.heap.size + 1) v x
  rb : ∃ C : Array Value, C.size = 2 ∧ v.heap[w.heap.size + 2]? = some (.cells C 28)
  ls : Ls v a n c L
  bel : Below w.heap.size w v
theorem Sr.go {w v v' : World} {g m : Nat} {most : Int} {L : List Th} {a : Option Addr} {n c : Nat} {x : Cl} (h : Sr w v g m most L a n c x) (hb : Below v.heap.size v v') : Sr w v' g m most L a n c x := ⟨h.st.go hb, h.sb.go hb, h.cb.go hb, (by obtain ⟨C, hs, hC⟩ := h.rb; exact ⟨C, hs, Below.row hb hC⟩), h.ls.go hb, below_go h.bel hb⟩
theorem Sr.drew {w v : World} {g m : Nat} {most : Int} {L : List Th} {a : Option Addr} {n c : Nat} {x : Cl} (h : Sr w v g m most L a n c x) : Sr w v.drew g m most L a n c x := h.go (Below.refl _ _).drew
theorem Sp.sr {w v : World} {g m : Nat} {most : Int} {L : List Th} {a : Option Addr} {n c : Nat} {x : Cl} (h : Sp w v g m most L a n c x) : Sr w v g m most L a n c x := ⟨h.st, h.sb, h.cb, ⟨_, rfl, h.rb⟩, h.ls, h.bel⟩
theorem Sr.put {w v v' : World} {g m : Nat} {most : Int} {L : List Th} {a : Option Addr} {n c : Nat} {x : Cl} (h : Sr w v g m most L a n c x) (hg : g < w.heap.size ∧ m < w.heap.size) (hp : Put v v' (w.heap.size + 2) #[.int .i64 most, .slice a n c]) : Sr w v' g m most L a n c x ∧ SBx (w.heap.size + 2) v' most a n c := by
  obtain ⟨C, hs, hC⟩ := h.rb
  have hb := hp.row hC
  obtain ⟨rfl⟩ := hp
  exact ⟨⟨⟨(setRow_other _ _ _ _ (by omega)).trans h.st.row, h.st.mp.keep (fun _ => setRow_other _ _ _ _ (by omega)), h.st.ne⟩, (setRow_other _ _ _ _ (by omega)).trans h.sb, (setRow_other _ _ _ _ (by omega)).trans h.cb, ⟨_, rfl, hb⟩, h.ls.one (h.ls.nbox hC (by omega)), Below.setRow h.bel (by omega) _⟩, hb⟩
theorem Ls.rng {w : World} {g off n c : Nat} {L : List Th} (h : Ls w (some ⟨g, off, none⟩) n c L) {j : Nat} {y : Th} (hj : L[j]? = some y) : w.rangeAt g (off + j * 34) y.cells := by
  obtain ⟨g', off', e, hr⟩ := h.rows j y hj
  cases e
  exact hr
theorem Sr.store {w v : World} {g m : Nat} {most : Int} {L : List Th} {a : Option Addr} {n c : Nat} {x : Cl} {ρ : Operand → Value} {o : Oper} (h : Sr w v g m most L a n c x) (p q : Operand) (ho : o.op = .store 28 p q) (hx : ρ p = .pointer (some ⟨w.heap.size + 2, 0, none⟩)) (hy : ρ q = .agg #[.int .i64 most, .slice a n c]) :
    (execOp ρ o).run Try.prog v = .ok .skip (v.setRow (w.heap.size + 2) #[.int .i64 most, .slice a n c]) := by
  obtain ⟨C, hs, hC⟩ := h.rb
  exact ol_store 28 _ _ _ _ _ _ ho hx hy hC (by kernel_rfl) (by simp [hs]) (s_one _ _ _ _)
set_option maxHeartbeats 4000000 in
theorem step2_any {w : World} {g m : Nat} {most : Int} {L : List Th} {a : Option Addr} {n c : Nat} (h : Sto w g m most L) (hl : Ls w a n c L) (hv : Iv L) (x : Cl) (k0 : x.k = 2) (hd : x.d.length = 32) (hs : x.s.size ≤ 140737488351232) (hn : n ≤ 2199023255549) :
    Calls Try.prog 11 #[.pointer (some ⟨g, 0, none⟩), .agg #[.int .i64 most, .slice a n c], .agg x.cells.toArray] w fun e w' => e = .returned (.tuple #[.agg #[.int .i64 most, .slice a n c], .bool true]) ∧ Sto w' g m most L ∧ Ls w' a n c L ∧ Below w.heap.size w w' := by
  have hlt := h.lts
  obtain ⟨d, hnm⟩ : ∃ d, x.nm = d := ⟨_, rfl⟩
  have hdl : d.length = 32 := by rw [← hnm]; exact Cl.nml hd
  cases hf : findT d L with
  | none =>
    have hgt : getT d L = (ByteArray.empty, 0, false) := by unfold getT; rw [hf]
    have hat : atT d L = -1 := by unfold atT; rw [hf]
    refine cw_enter Try.func11 rfl 140 rfl ?_
    show CW _ _ _ _ _ _ _ [(0, .pointer (some ⟨g, 0, none⟩)), (1, .agg #[.int .i64 most, .slice a n c]), (2, .agg x.cells.toArray)] _
    refine cw_seq ?_
    refine cw_region ?_
    refine rw_new 4 (#[.int .i64 most, .slice a n c]) 28 (fun _ => by kernel_rfl) (fun _ => by kernel_rfl) ?_
    intro w1 g2 hn3
    refine rw_new 5 x.cells.toArray 32 (fun _ => by kernel_rfl) (fun _ => by kernel_rfl) ?_
    intro w4 g5 hn6
    refine rw_new 6 (#[.int .i64 0, .slice none 0 0]) 28 (fun _ => by kernel_rfl) (fun _ => by kernel_rfl) ?_
    intro w7 g8 hn9
    refine rw_p 7 (.bool false) (fun _ => by kernel_rfl) (fun _ => by kernel_rfl) ?_
    refine rw_nil ?_
    have hP : Sp w w7 g m most L a n c x := by rw [hn9.hw, hn6.hw, hn3.hw]; exact sp_new h hl x
    obtain rfl : g2 = w.heap.size := hn3.hg
    obtain rfl : g5 = w.heap.size + 1 := by rw [hn6.hg, hn3.size]
    obtain rfl : g8 = w.heap.size + 2 := by rw [hn9.hg, hn6.size]
    clear hn9 hn6 hn3
    refine nw_sub [(6, .pointer (some ⟨w.heap.size + 2, 0, none⟩)), (5, .pointer (some ⟨w.heap.size + 1, 0, none⟩)), (4, .pointer (some ⟨w.heap.size, 0, none⟩)), (0, .pointer (some ⟨g, 0, none⟩))] (by exact ⟨fun _ => by kernel_rfl, ⟨fun _ => by kernel_rfl, ⟨fun _ => by kernel_rfl, ⟨fun _ => by kernel_rfl, trivial⟩⟩⟩⟩) ?_
    replace hP := hP.sr
    refine nw_then ?_
    refine cw_seq ?_
    refine cw_seq ?_
    refine cw_region ?_
    refine rw_p 22 (.pointer (some ⟨w.heap.size + 1, 0, none⟩)) (fun _ => by kernel_rfl) (fun _ => by kernel_rfl) ?_
    refine rw_p 23 (.int .i64 2) (fun _ => by kernel_rfl) (fun _ => ol_cell 3 _ _ _ _ rfl (by kernel_rfl) (by rw [hP.cb.c0, k0]) Try.underlying3 rfl) ?_
    refine rw_nil ?_
    refine nw_then ?_
    refine cw_block ?_
    refine cw_seq ?_
    refine cw_region ?_
    refine rw_p 25 (.bool false) (fun _ => by kernel_rfl) (fun _ => by kernel_rfl) ?_
    refine rw_p 24 (.bool false) (fun _ => by kernel_rfl) (fun _ => by kernel_rfl) ?_
    refine rw_nil ?_
    refine nw_then ?_
    refine cw_cond_f (fun _ => by kernel_rfl) ?_
    refine cw_seq ?_
    refine cw_region ?_
    refine rw_p 51 (.bool false) (fun _ => by kernel_rfl) (fun _ => by kernel_rfl) ?_
    refine rw_p 50 (.bool false) (fun _ => by kernel_rfl) (fun _ => by kernel_rfl) ?_
    refine rw_nil ?_
    refine nw_then ?_
    refine cw_cond_f (fun _ => by kernel_rfl) ?_
    refine cw_seq ?_
    refine cw_region ?_
    refine rw_p 77 (.bool true) (fun _ => by kernel_rfl) (fun _ => by kernel_rfl) ?_
    refine rw_p 76 (.bool true) (fun _ => by kernel_rfl) (fun _ => by kernel_rfl) ?_
    refine rw_nil ?_
    refine nw_then ?_
    refine cw_cond_t (fun _ => by kernel_rfl) ?_
    refine cw_seq ?_
    refine cw_region ?_
    refine rw_p 79 (.pointer (some ⟨g, 0, none⟩)) (fun _ => by kernel_rfl) (fun _ => by kernel_rfl) ?_
    refine rw_p 80 (.agg x.cells.toArray) (fun _ => by kernel_rfl) (fun _ => ol_row 32 _ _ _ _ _ _ rfl (by kernel_rfl) hP.cb Try.underlying32 rfl (by rw [List.size_toArray, Cl.clen hd]; kernel_rfl)) ?_
    refine rw_call 81 25 #[.agg x.cells.toArray] (fun _ => by kernel_rfl) (fun _ => by kernel_rfl) (R := fun val w' => val = .agg (B8 d) ∧ Below (w7).heap.size (w7) w') ((name_any x hd hs (w7)).mono (fun e w' h => ⟨_, by rw [h.1, hnm], rfl, h.2⟩)) ?_
    rintro val u10 ⟨rfl, hb11⟩
    replace hP := hP.go hb11
    refine rw_call 82 19 #[.pointer (some ⟨g, 0, none⟩), .agg (B8 d)] (fun _ => by kernel_rfl) (fun _ => by kernel_rfl) (R := fun val w' => val = .tuple #[.string ByteArray.empty, .int .i64 0, .bool false] ∧ Below (u10).heap.size (u10) w') ((get_any hP.st d hdl).mono (fun e w' h => ⟨_, by rw [h.1, hgt], rfl, h.2⟩)) ?_
    rintro val u12 ⟨rfl, hb13⟩
    replace hP := hP.go hb13
    refine rw_p 78 (.tuple #[.string ByteArray.empty, .int .i64 0, .bool false]) (fun _ => by kernel_rfl) (fun _ => by kernel_rfl) ?_
    refine rw_p 83 (.string ByteArray.empty) (fun _ => by kernel_rfl) (fun _ => by kernel_rfl) ?_
    refine rw_p 84 (.int .i64 0) (fun _ => by kernel_rfl) (fun _ => by kernel_rfl) ?_
    refine rw_p 85 (.bool false) (fun _ => by kernel_rfl) (fun _ => by kernel_rfl) ?_
    refine rw_p 18 (.string ByteArray.empty) (fun _ => by kernel_rfl) (fun _ => by kernel_rfl) ?_
    refine rw_p 19 (.int .i64 0) (fun _ => by kernel_rfl) (fun _ => by kernel_rfl) ?_
    refine rw_p 20 (.bool false) (fun _ => by kernel_rfl) (fun _ => by kernel_rfl) ?_
    refine rw_nil ?_
    refine nw_then ?_
    refine cw_seq ?_
    refine cw_draw (fun v => Sr w v g m most L a n c x) (by kernel_rfl) (hP.drew) ?_
    refine dw_take 0 86 (.agg #[.int .i64 most, .slice a n c]) rfl (by kernel_rfl) (fun _ _ _ h => h) (fun _ => by kernel_rfl) (fun v hv _ => ol_row 28 _ _ _ _ _ _ rfl (by kernel_rfl) hv.sb Try.underlying28 rfl (by kernel_rfl)) hP.drew ?_
    refine dw_take 1 87 (.agg x.cells.toArray) rfl (by kernel_rfl) (fun _ _ _ h => h) (fun _ => by kernel_rfl) (fun v hv _ => ol_row 32 _ _ _ _ _ _ rfl (by kernel_rfl) hv.cb Try.underlying32 rfl (by rw [List.size_toArray, Cl.clen hd]; kernel_rfl)) hP.drew ?_
    refine dw_ready [2] (by kernel_rfl) (by simp) ?_
    refine ar_call 2 88 25 #[.agg x.cells.toArray] rfl (fun _ => by kernel_rfl) (fun _ => by kernel_rfl) (R := fun val w' => val = .agg (B8 d) ∧ Below (u12.drew).heap.size (u12.drew) w') ((name_any x hd hs (u12.drew)).mono (fun e w' h => ⟨_, by rw [h.1, hnm], rfl, h.2⟩)) (fun val w' h => hP.drew.go h.2) ?_ ar_nil
    rintro val u14 ⟨rfl, hb15⟩
    have Su14 := hP.drew.go hb15
    refine dw_ready [3] (by kernel_rfl) (by simp) ?_
    refine ar_call 3 89 22 #[.agg #[.int .i64 most, .slice a n c], .agg (B8 d)] rfl (fun _ => by kernel_rfl) (fun _ => by kernel_rfl) (R := fun val w' => val = .int .i64 (-1) ∧ Below (u14).heap.size (u14) w') ((rat_any most _ n c L d hdl (u14) Su14.ls (by omega)).mono (fun e w' h => ⟨_, by rw [h.1, hat], rfl, h.2⟩)) (fun val w' h => Su14.go h.2) ?_ ar_nil
    rintro val u16 ⟨rfl, hb17⟩
    have Su16 := Su14.go hb17
    refine dw_take 4 21 (.int .i64 (-1)) rfl (by kernel_rfl) (fun _ _ _ h => h) (fun _ => by kernel_rfl) (fun v hv _ => by kernel_rfl) Su16 ?_
    refine dw_done (by kernel_rfl) ?_
    refine nw_then ?_
    refine cw_seq ?_
    refine cw_seq ?_
    have hP2 := Su16
    refine cw_region ?_
    refine rw_p 90 (.int .i64 (-1)) (fun _ => by kernel_rfl) (fun _ => by kernel_rfl) ?_
    refine rw_p 91 (.bool true) (fun _ => by kernel_rfl) (fun _ => by kernel_rfl) ?_
    refine rw_nil ?_
    refine nw_then ?_
    refine cw_cond_t (fun _ => by kernel_rfl) ?_
    refine cw_seq ?_
    refine cw_region ?_
    refine rw_p 92 (.agg #[.int .i64 most, .slice a n c]) (fun _ => by kernel_rfl) (fun _ => ol_row 28 _ _ _ _ _ _ rfl (by kernel_rfl) hP2.sb Try.underlying28 rfl (by kernel_rfl)) ?_
    refine rw_p 93 (.string ByteArray.empty) (fun _ => by kernel_rfl) (fun _ => by kernel_rfl) ?_
    refine rw_p 94 (.bool true) (fun _ => by kernel_rfl) (fun _ => ol_eqs 34 _ _ _ ByteArray.empty ByteArray.empty rfl (by kernel_rfl) (by kernel_rfl) (beq_self_eq_true _)) ?_
    refine rw_p 95 (.bool true) (fun _ => by kernel_rfl) (fun _ => by kernel_rfl) ?_
    refine rw_p 96 (.int .i64 0) (fun _ => by kernel_rfl) (fun _ => by kernel_rfl) ?_
    refine rw_p 97 (.bool true) (fun _ => by kernel_rfl) (fun _ => by kernel_rfl) ?_
    refine rw_p 98 (.bool true) (fun _ => by kernel_rfl) (fun _ => by kernel_rfl) ?_
    refine rw_p 99 (.bool true) (fun _ => by kernel_rfl) (fun _ => by kernel_rfl) ?_
    refine rw_p 100 (.bool false) (fun _ => by kernel_rfl) (fun _ => by kernel_rfl) ?_
    refine rw_p 101 (.bool true) (fun _ => by kernel_rfl) (fun _ => by kernel_rfl) ?_
    refine rw_p 102 (.bool true) (fun _ => by kernel_rfl) (fun _ => by kernel_rfl) ?_
    refine rw_put (w.heap.size + 2) #[.int .i64 most, .slice a n c] (fun _ => by kernel_rfl) (fun _ => hP2.store _ _ rfl (by kernel_rfl) (by kernel_rfl)) ?_
    intro uE hpE
    have hE := hP2.put hlt hpE
    refine rw_p 7 (.bool true) (fun _ => by kernel_rfl) (fun _ => by kernel_rfl) ?_
    refine rw_nil ?_
    refine nw_then ?_
    refine cw_ret ?_
    refine nw_ret_then ?_
    refine nw_ret_block ?_
    refine nw_ret_then ?_
    exact nw_ret_body (.tuple #[.agg #[.int .i64 most, .slice a n c], .bool true]) (fun _ => results_s1' Try.results11 _ _ (w.heap.size + 2) most _ n c rfl hE.2) ⟨rfl, hE.1.st, hE.1.ls, hE.1.bel⟩
  | some p =>
    obtain ⟨j, y⟩ := p
    have hgt : getT d L = (y.s, y.r, true) := by unfold getT; rw [hf]
    have hat : atT d L = ((j : Nat) : Int) := by unfold atT; rw [hf]
    obtain ⟨hj, hyd⟩ := findT_some hf
    have hyl : y.d.length = 32 := by rw [hyd]; exact hdl
    have hjn : j < n := by rw [hl.l]; exact (List.getElem?_eq_some_iff.1 hj).1
    obtain ⟨gl, off, rfl, _⟩ := hl.rows j y hj
    refine cw_enter Try.func11 rfl 140 rfl ?_
    show CW _ _ _ _ _ _ _ [(0, .pointer (some ⟨g, 0, none⟩)), (1, .agg #[.int .i64 most, .slice (some ⟨gl, off, none⟩) n c]), (2, .agg x.cells.toArray)] _
    refine cw_seq ?_
    refine cw_region ?_
    refine rw_new 4 (#[.int .i64 most, .slice (some ⟨gl, off, none⟩) n c]) 28 (fun _ => by kernel_rfl) (fun _ => by kernel_rfl) ?_
    intro w1 g2 hn3
    refine rw_new 5 x.cells.toArray 32 (fun _ => by kernel_rfl) (fun _ => by kernel_rfl) ?_
    intro w4 g5 hn6
    refine rw_new 6 (#[.int .i64 0, .slice none 0 0]) 28 (fun _ => by kernel_rfl) (fun _ => by kernel_rfl) ?_
    intro w7 g8 hn9
    refine rw_p 7 (.bool false) (fun _ => by kernel_rfl) (fun _ => by kernel_rfl) ?_
    refine rw_nil ?_
    have hP : Sp w w7 g m most L (some ⟨gl, off, none⟩) n c x := by rw [hn9.hw, hn6.hw, hn3.hw]; exact sp_new h hl x
    obtain rfl : g2 = w.heap.size := hn3.hg
    obtain rfl : g5 = w.heap.size + 1 := by rw [hn6.hg, hn3.size]
    obtain rfl : g8 = w.heap.size + 2 := by rw [hn9.hg, hn6.size]
    clear hn9 hn6 hn3
    refine nw_sub [(6, .pointer (some ⟨w.heap.size + 2, 0, none⟩)), (5, .pointer (some ⟨w.heap.size + 1, 0, none⟩)), (4, .pointer (some ⟨w.heap.size, 0, none⟩)), (0, .pointer (some ⟨g, 0, none⟩))] (by exact ⟨fun _ => by kernel_rfl, ⟨fun _ => by kernel_rfl, ⟨fun _ => by kernel_rfl, ⟨fun _ => by kernel_rfl, trivial⟩⟩⟩⟩) ?_
    replace hP := hP.sr
    refine nw_then ?_
    refine cw_seq ?_
    refine cw_seq ?_
    refine cw_region ?_
    refine rw_p 22 (.pointer (some ⟨w.heap.size + 1, 0, none⟩)) (fun _ => by kernel_rfl) (fun _ => by kernel_rfl) ?_
    refine rw_p 23 (.int .i64 2) (fun _ => by kernel_rfl) (fun _ => ol_cell 3 _ _ _ _ rfl (by kernel_rfl) (by rw [hP.cb.c0, k0]) Try.underlying3 rfl) ?_
    refine rw_nil ?_
    refine nw_then ?_
    refine cw_block ?_
    refine cw_seq ?_
    refine cw_region ?_
    refine rw_p 25 (.bool false) (fun _ => by kernel_rfl) (fun _ => by kernel_rfl) ?_
    refine rw_p 24 (.bool false) (fun _ => by kernel_rfl) (fun _ => by kernel_rfl) ?_
    refine rw_nil ?_
    refine nw_then ?_
    refine cw_cond_f (fun _ => by kernel_rfl) ?_
    refine cw_seq ?_
    refine cw_region ?_
    refine rw_p 51 (.bool false) (fun _ => by kernel_rfl) (fun _ => by kernel_rfl) ?_
    refine rw_p 50 (.bool false) (fun _ => by kernel_rfl) (fun _ => by kernel_rfl) ?_
    refine rw_nil ?_
    refine nw_then ?_
    refine cw_cond_f (fun _ => by kernel_rfl) ?_
    refine cw_seq ?_
    refine cw_region ?_
    refine rw_p 77 (.bool true) (fun _ => by kernel_rfl) (fun _ => by kernel_rfl) ?_
    refine rw_p 76 (.bool true) (fun _ => by kernel_rfl) (fun _ => by kernel_rfl) ?_
    refine rw_nil ?_
    refine nw_then ?_
    refine cw_cond_t (fun _ => by kernel_rfl) ?_
    refine cw_seq ?_
    refine cw_region ?_
    refine rw_p 79 (.pointer (some ⟨g, 0, none⟩)) (fun _ => by kernel_rfl) (fun _ => by kernel_rfl) ?_
    refine rw_p 80 (.agg x.cells.toArray) (fun _ => by kernel_rfl) (fun _ => ol_row 32 _ _ _ _ _ _ rfl (by kernel_rfl) hP.cb Try.underlying32 rfl (by rw [List.size_toArray, Cl.clen hd]; kernel_rfl)) ?_
    refine rw_call 81 25 #[.agg x.cells.toArray] (fun _ => by kernel_rfl) (fun _ => by kernel_rfl) (R := fun val w' => val = .agg (B8 d) ∧ Below (w7).heap.size (w7) w') ((name_any x hd hs (w7)).mono (fun e w' h => ⟨_, by rw [h.1, hnm], rfl, h.2⟩)) ?_
    rintro val u10 ⟨rfl, hb11⟩
    replace hP := hP.go hb11
    refine rw_call 82 19 #[.pointer (some ⟨g, 0, none⟩), .agg (B8 d)] (fun _ => by kernel_rfl) (fun _ => by kernel_rfl) (R := fun val w' => val = .tuple #[.string y.s, .int .i64 y.r, .bool true] ∧ Below (u10).heap.size (u10) w') ((get_any hP.st d hdl).mono (fun e w' h => ⟨_, by rw [h.1, hgt], rfl, h.2⟩)) ?_
    rintro val u12 ⟨rfl, hb13⟩
    replace hP := hP.go hb13
    refine rw_p 78 (.tuple #[.string y.s, .int .i64 y.r, .bool true]) (fun _ => by kernel_rfl) (fun _ => by kernel_rfl) ?_
    refine rw_p 83 (.string y.s) (fun _ => by kernel_rfl) (fun _ => by kernel_rfl) ?_
    refine rw_p 84 (.int .i64 y.r) (fun _ => by kernel_rfl) (fun _ => by kernel_rfl) ?_
    refine rw_p 85 (.bool true) (fun _ => by kernel_rfl) (fun _ => by kernel_rfl) ?_
    refine rw_p 18 (.string y.s) (fun _ => by kernel_rfl) (fun _ => by kernel_rfl) ?_
    refine rw_p 19 (.int .i64 y.r) (fun _ => by kernel_rfl) (fun _ => by kernel_rfl) ?_
    refine rw_p 20 (.bool true) (fun _ => by kernel_rfl) (fun _ => by kernel_rfl) ?_
    refine rw_nil ?_
    refine nw_then ?_
    refine cw_seq ?_
    refine cw_draw (fun v => Sr w v g m most L (some ⟨gl, off, none⟩) n c x) (by kernel_rfl) (hP.drew) ?_
    refine dw_take 0 86 (.agg #[.int .i64 most, .slice (some ⟨gl, off, none⟩) n c]) rfl (by kernel_rfl) (fun _ _ _ h => h) (fun _ => by kernel_rfl) (fun v hv _ => ol_row 28 _ _ _ _ _ _ rfl (by kernel_rfl) hv.sb Try.underlying28 rfl (by kernel_rfl)) hP.drew ?_
    refine dw_take 1 87 (.agg x.cells.toArray) rfl (by kernel_rfl) (fun _ _ _ h => h) (fun _ => by kernel_rfl) (fun v hv _ => ol_row 32 _ _ _ _ _ _ rfl (by kernel_rfl) hv.cb Try.underlying32 rfl (by rw [List.size_toArray, Cl.clen hd]; kernel_rfl)) hP.drew ?_
    refine dw_ready [2] (by kernel_rfl) (by simp) ?_
    refine ar_call 2 88 25 #[.agg x.cells.toArray] rfl (fun _ => by kernel_rfl) (fun _ => by kernel_rfl) (R := fun val w' => val = .agg (B8 d) ∧ Below (u12.drew).heap.size (u12.drew) w') ((name_any x hd hs (u12.drew)).mono (fun e w' h => ⟨_, by rw [h.1, hnm], rfl, h.2⟩)) (fun val w' h => hP.drew.go h.2) ?_ ar_nil
    rintro val u14 ⟨rfl, hb15⟩
    have Su14 := hP.drew.go hb15
    refine dw_ready [3] (by kernel_rfl) (by simp) ?_
    refine ar_call 3 89 22 #[.agg #[.int .i64 most, .slice (some ⟨gl, off, none⟩) n c], .agg (B8 d)] rfl (fun _ => by kernel_rfl) (fun _ => by kernel_rfl) (R := fun val w' => val = .int .i64 ((j : Nat) : Int) ∧ Below (u14).heap.size (u14) w') ((rat_any most _ n c L d hdl (u14) Su14.ls (by omega)).mono (fun e w' h => ⟨_, by rw [h.1, hat], rfl, h.2⟩)) (fun val w' h => Su14.go h.2) ?_ ar_nil
    rintro val u16 ⟨rfl, hb17⟩
    have Su16 := Su14.go hb17
    refine dw_take 4 21 (.int .i64 ((j : Nat) : Int)) rfl (by kernel_rfl) (fun _ _ _ h => h) (fun _ => by kernel_rfl) (fun v hv _ => by kernel_rfl) Su16 ?_
    refine dw_done (by kernel_rfl) ?_
    refine nw_then ?_
    refine cw_seq ?_
    refine cw_seq ?_
    have hP2 := Su16
    refine cw_region ?_
    refine rw_p 90 (.int .i64 ((j : Nat) : Int)) (fun _ => by kernel_rfl) (fun _ => by kernel_rfl) ?_
    refine rw_p 91 (.bool false) (fun _ => by kernel_rfl) (fun _ => ol_conv (v := .bool (decide (((j : Nat) : Int) < (0 : Int)))) (by kernel_rfl) (congrArg Value.bool (decide_eq_false (by omega)))) ?_
    refine rw_nil ?_
    refine nw_then ?_
    refine cw_cond_f (fun _ => by kernel_rfl) ?_
    refine cw_skip ?_
    refine nw_then ?_
    refine cw_seq ?_
    refine cw_draw (fun v => Sr w v g m most L (some ⟨gl, off, none⟩) n c x) (by kernel_rfl) (hP2.drew) ?_
    refine dw_take 0 103 (.agg #[.int .i64 most, .slice (some ⟨gl, off, none⟩) n c]) rfl (by kernel_rfl) (fun _ _ _ h => h) (fun _ => by kernel_rfl) (fun v hv _ => ol_row 28 _ _ _ _ _ _ rfl (by kernel_rfl) hv.sb Try.underlying28 rfl (by kernel_rfl)) hP2.drew ?_
    refine dw_take 1 104 (.string y.s) rfl (by kernel_rfl) (fun _ _ _ h => h) (fun _ => by kernel_rfl) (fun v hv _ => by kernel_rfl) hP2.drew ?_
    refine dw_take 2 105 (.pointer (some ⟨w.heap.size, 1, none⟩)) rfl (by kernel_rfl) (fun _ _ _ h => h) (fun _ => by kernel_rfl) (fun v hv _ => by kernel_rfl) hP2.drew ?_
    refine dw_take 3 106 (.slice (some ⟨gl, off, none⟩) n c) rfl (by kernel_rfl) (fun _ _ _ h => h) (fun _ => by kernel_rfl) (fun v hv _ => ol_cell 26 _ _ _ _ rfl (by kernel_rfl) hv.sb.c1 Try.underlying26 rfl) hP2.drew ?_
    refine dw_take 4 107 (.int .i64 ((j : Nat) : Int)) rfl (by kernel_rfl) (fun _ _ _ h => h) (fun _ => by kernel_rfl) (fun v hv _ => by kernel_rfl) hP2.drew ?_
    refine dw_take 5 108 (.pointer (some ⟨gl, off + j * 34, none⟩)) rfl (by kernel_rfl) (fun _ _ _ h => h) (fun _ => by kernel_rfl) (fun v hv _ => ol_index 26 _ _ gl off j n c 34 60 rfl (by kernel_rfl) (by kernel_rfl) hjn Try.underlying26 (by kernel_rfl)) hP2.drew ?_
    refine dw_take 6 109 (.pointer (some ⟨gl, off + j * 34 + 32, none⟩)) rfl (by kernel_rfl) (fun _ _ _ h => h) (fun _ => by kernel_rfl) (fun v hv _ => by kernel_rfl) hP2.drew ?_
    refine dw_take 7 110 (.string y.s) rfl (by kernel_rfl) (fun _ _ _ h => h) (fun _ => by kernel_rfl) (fun v hv _ => ol_cell 9 _ _ _ _ rfl (by kernel_rfl) (hv.ls.rng hj 32 _ (Th.c32 hyl)) Try.underlying9 rfl) hP2.drew ?_
    refine dw_take 8 111 (.bool true) rfl (by kernel_rfl) (fun _ _ _ h => h) (fun _ => by kernel_rfl) (fun v hv _ => ol_eqs 9 _ _ _ y.s y.s rfl (by kernel_rfl) (by kernel_rfl) (beq_self_eq_true _)) hP2.drew ?_
    refine dw_take 9 112 (.bool true) rfl (by kernel_rfl) (fun _ _ _ h => h) (fun _ => by kernel_rfl) (fun v hv _ => by kernel_rfl) hP2.drew ?_
    refine dw_take 10 113 (.int .i64 y.r) rfl (by kernel_rfl) (fun _ _ _ h => h) (fun _ => by kernel_rfl) (fun v hv _ => by kernel_rfl) hP2.drew ?_
    refine dw_take 11 114 (.pointer (some ⟨w.heap.size, 1, none⟩)) rfl (by kernel_rfl) (fun _ _ _ h => h) (fun _ => by kernel_rfl) (fun v hv _ => by kernel_rfl) hP2.drew ?_
    refine dw_take 12 115 (.slice (some ⟨gl, off, none⟩) n c) rfl (by kernel_rfl) (fun _ _ _ h => h) (fun _ => by kernel_rfl) (fun v hv _ => ol_cell 26 _ _ _ _ rfl (by kernel_rfl) hv.sb.c1 Try.underlying26 rfl) hP2.drew ?_
    refine dw_take 13 116 (.int .i64 ((j : Nat) : Int)) rfl (by kernel_rfl) (fun _ _ _ h => h) (fun _ => by kernel_rfl) (fun v hv _ => by kernel_rfl) hP2.drew ?_
    refine dw_take 14 117 (.pointer (some ⟨gl, off + j * 34, none⟩)) rfl (by kernel_rfl) (fun _ _ _ h => h) (fun _ => by kernel_rfl) (fun v hv _ => ol_index 26 _ _ gl off j n c 34 60 rfl (by kernel_rfl) (by kernel_rfl) hjn Try.underlying26 (by kernel_rfl)) hP2.drew ?_
    refine dw_take 15 118 (.pointer (some ⟨gl, off + j * 34 + 33, none⟩)) rfl (by kernel_rfl) (fun _ _ _ h => h) (fun _ => by kernel_rfl) (fun v hv _ => by kernel_rfl) hP2.drew ?_
    refine dw_take 16 119 (.int .i64 y.r) rfl (by kernel_rfl) (fun _ _ _ h => h) (fun _ => by kernel_rfl) (fun v hv _ => ol_cell 3 _ _ _ _ rfl (by kernel_rfl) (hv.ls.rng hj 33 _ (Th.c33 hyl)) Try.underlying3 rfl) hP2.drew ?_
    refine dw_take 17 120 (.bool true) rfl (by kernel_rfl) (fun _ _ _ h => h) (fun _ => by kernel_rfl) (fun v hv => (fun _ => ol_conv (v := .bool ((y.r : Int) == (y.r : Int))) (by kernel_rfl) (congrArg Value.bool (by simp)))) hP2.drew ?_
    refine dw_take 18 121 (.bool true) rfl (by kernel_rfl) (fun _ _ _ h => h) (fun _ => by kernel_rfl) (fun v hv _ => by kernel_rfl) hP2.drew ?_
    refine dw_take 19 122 (.bool true) rfl (by kernel_rfl) (fun _ _ _ h => h) (fun _ => by kernel_rfl) (fun v hv _ => by kernel_rfl) hP2.drew ?_
    refine dw_take 20 123 (.bool true) rfl (by kernel_rfl) (fun _ _ _ h => h) (fun _ => by kernel_rfl) (fun v hv _ => by kernel_rfl) hP2.drew ?_
    refine dw_take 21 124 (.bool true) rfl (by kernel_rfl) (fun _ _ _ h => h) (fun _ => by kernel_rfl) (fun v hv _ => by kernel_rfl) hP2.drew ?_
    refine dw_ready [22] (by kernel_rfl) (by simp) ?_
    refine ar_put 22 (w.heap.size + 2) (#[.int .i64 most, .slice (some ⟨gl, off, none⟩) n c]) rfl (fun _ => by kernel_rfl) (fun _ => hP2.drew.store _ _ rfl (by kernel_rfl) (by kernel_rfl)) (fun w' h => (hP2.drew.put hlt h).1) ?_ ar_nil
    intro w18 hp19
    have hE := hP2.drew.put hlt hp19
    refine dw_take 23 7 (.bool true) rfl (by kernel_rfl) (fun _ _ _ h => h) (fun _ => by kernel_rfl) (fun v hv _ => by kernel_rfl) hE.1 ?_
    refine dw_done (by kernel_rfl) ?_
    refine nw_then ?_
    refine cw_ret ?_
    refine nw_ret_block ?_
    refine nw_ret_then ?_
    exact nw_ret_body (.tuple #[.agg #[.int .i64 most, .slice (some ⟨gl, off, none⟩) n c], .bool true]) (fun _ => results_s1' Try.results11 _ _ (w.heap.size + 2) most _ n c rfl hE.2) ⟨rfl, hE.1.st, hE.1.ls, hE.1.bel⟩
end Go.Proofs.Ytjpcfdhkgfaeeaa

/- What the document's items answers, by what first answers. -/
import Derived.Test.YtkbdkenpblcofabG1
namespace Go.Proofs.Ytkbdkenpblcofab
open Go.RowKit
set_option linter.unusedVariables false
/-- The same cell is set in two worlds. -/
theorem below_set {N : Nat} {u v : World} (h : Below N u v) {g o t : Nat} {cs : Array Value} (hg : g < N) (hu : u.heap[g]? = some (.cells cs t)) (x : Value) : Below N (u.setCell ⟨g, o, none⟩ x) (v.setCell ⟨g, o, none⟩ x) := by
  have hgb := (h.block g hg).trans hu
  refine ⟨h.os, h.tape, h.output, by simpa using h.size, fun k hk => ?_⟩
  by_cases e : k = g
  · subst e
    rw [heap_setCell_same u k o _ t x hu, heap_setCell_same v k o _ t x hgb]
  · rw [heap_setCell_other _ _ _ _ e, heap_setCell_other _ _ _ _ e]
    exact h.block k hk
/-- While items goes on: the result's block, the box of the list, what is gathered. -/
structure Ib (w v U : World) (it : Value) (ts : List T) (ys : List V) : Prop where
  sz : U.heap.size = w.heap.size + 2
  res : U.heap[w.heap.size]? = some (.cells #[.bool false, .slice none 0 0, .slice none 0 0] 25)
  box : U.heap[w.heap.size + 1]? = some (.cells #[.bool true, .slice none 0 0, it] 25)
  bw : Below w.heap.size w U
  bel : Below U.heap.size U v
  own : OwnI v U.heap.size it ys
  all : AllP (fun b => U.heap.size ≤ b ∧ it.ownBlock ≠ some b) v ts ys
theorem ib_new (w : World) : Ib w ((w.alloc (.cells #[.bool false, .slice none 0 0, .slice none 0 0] 25)).alloc (.cells #[.bool true, .slice none 0 0, .slice none 0 0] 25)) ((w.alloc (.cells #[.bool false, .slice none 0 0, .slice none 0 0] 25)).alloc (.cells #[.bool true, .slice none 0 0, .slice none 0 0] 25)) (.slice none 0 0) [] [] :=
  ⟨by simp, (Below.heap_alloc _ _ _ (by simp)).trans (heap_alloc_new _ _), heap_alloc2_new _ _ _, ((Below.refl _ _).alloc (Nat.le_refl _) _).alloc (by simp) _, Below.refl _ _, World.ownsRow_nil _ _ _ _, trivial⟩
/-- One thing more. -/
theorem ib_step {w v U w1 : World} {it : Value} {ts : List T} {ys : List V} {y : V} {t : T} (h : Ib w v U it ts ys) (hb1 : Below v.heap.size v w1) (hy : LiesP (fun b => v.heap.size ≤ b) w1 t y) (hlen : ys.length ≤ 1000000000) (ty : TypeId) :
    ∃ it' w3, (Builtin.append_ #[22, 22] ty #[it, .slice (some ⟨w1.heap.size + 1, 0, none⟩) 1 1]).run Try.prog ((w1.alloc (.cells #[.bool y.l, .slice y.ba y.bn y.bc, .slice y.ia y.m y.ic] 25)).alloc (.cells #[.bool y.l, .slice y.ba y.bn y.bc, .slice y.ia y.m y.ic] 25)) = .ok it' w3 ∧
      Below U.heap.size U w3 ∧ Ib w (w3.setCell ⟨w.heap.size + 1, 2, none⟩ it') (U.setCell ⟨w.heap.size + 1, 2, none⟩ it') it' (ts ++ [t]) (ys ++ [y]) := by
  obtain ⟨it', w3, hrun, s1, s2, s3⟩ := round_step h.own h.all h.bel hb1 hy hlen ty
  have hs := h.sz
  refine ⟨it', w3, hrun, s3, ⟨by simpa using hs, (heap_setCell_other _ _ _ _ (show w.heap.size ≠ w.heap.size + 1 by omega)).trans h.res, ?_, h.bw.setCell (by simp) _, ?_, ?_, ?_⟩⟩
  · have := heap_setCell_same U (w.heap.size + 1) 2 _ 25 it' h.box
    simpa using this
  · have := below_set s3 (g := w.heap.size + 1) (o := 2) (by omega) h.box it'
    simpa using this
  · have e : (U.setCell ⟨w.heap.size + 1, 2, none⟩ it').heap.size = U.heap.size := by simp
    rw [e]
    exact own_keep s1 (fun g hg _ => heap_setCell_other _ _ _ _ (show g ≠ w.heap.size + 1 by have := (own_lt s1 hg).1; omega))
  · have e : (U.setCell ⟨w.heap.size + 1, 2, none⟩ it').heap.size = U.heap.size := by simp
    rw [e]
    exact s2.mono fun b hb _ => ⟨heap_setCell_other _ _ _ _ (show b ≠ w.heap.size + 1 by have := hb.1; omega), hb⟩
theorem own_slice {w : World} {base : Nat} {v : Value} {ys : List V} (h : OwnI w base v ys) : ∃ a n c, v = .slice a n c := by
  rcases h.2 with ⟨h2, _⟩ | ⟨g, cap, cur, hv, _⟩
  · exact ⟨_, _, _, h2⟩
  · exact ⟨_, _, _, hv⟩
theorem Ib.cells {w v U : World} {it : Value} {ts : List T} {ys : List V} (h : Ib w v U it ts ys) {v' : World} (hb : Below U.heap.size U v') :
    (∀ o, v'.frozen? ⟨w.heap.size, o, none⟩ = false) ∧ (∀ o, v'.frozen? ⟨w.heap.size + 1, o, none⟩ = false) ∧ v'.cell? ⟨w.heap.size, 0, none⟩ = some (.bool false) ∧ v'.cell? ⟨w.heap.size, 1, none⟩ = some (.slice none 0 0) ∧ v'.cell? ⟨w.heap.size, 2, none⟩ = some (.slice none 0 0) ∧ v'.cell? ⟨w.heap.size + 1, 0, none⟩ = some (.bool true) ∧ v'.cell? ⟨w.heap.size + 1, 1, none⟩ = some (.slice none 0 0) ∧ v'.cell? ⟨w.heap.size + 1, 2, none⟩ = some it := by
  have r1 := Below.row hb h.res
  have r2 := Below.row hb h.box
  exact ⟨fun o => frozen_of_row _ _ _ _ _ r1, fun o => frozen_of_row _ _ _ _ _ r2, by rw [cell_of_row _ _ _ _ _ _ r1]; rfl, by rw [cell_of_row _ _ _ _ _ _ r1]; rfl, by rw [cell_of_row _ _ _ _ _ _ r1]; rfl, by rw [cell_of_row _ _ _ _ _ _ r2]; rfl, by rw [cell_of_row _ _ _ _ _ _ r2]; rfl, by rw [cell_of_row _ _ _ _ _ _ r2]; rfl⟩
set_option maxHeartbeats 4000000 in
theorem ritems_any (k : Nat) (hfirst : FSaid k) (a : Option Addr) (n c : Nat) (b : List Int) (w : World) (h : Ag w a n c b) (hn : n ≤ 140737488351232) (i j d : Nat) (hij : i ≤ j) (hj : j ≤ n) (hl : j - i < 16777216) (hd : d + k = 8) :
    Calls Try.prog 31 #[.slice a n c, .int .i64 i, .int .i64 j, .int .i64 d] w (IPost w j (rdAll (rd k) (pc b i j).length (pc b i j))) := by
  have HF := Hid.mk hfirst
  have HA := Hid.mk h
  obtain ⟨res, hres⟩ : ∃ r, rdAll (rd k) (pc b i j).length (pc b i j) = r := ⟨_, rfl⟩
  rw [hres]
  have HRES := Hid.mk hres
  clear hfirst h hres
  go_enter Try.func31, Try.ntmps31
  go_wp2_with fail
  go_loopw [1] (fun p v => ∃ (q : Nat) (U : World) (it : Value) (ts : List T) (ys : List V), p = .int .i64 q ∧ i ≤ q ∧ q ≤ j ∧ ts.length ≤ q - i ∧ res = RL.pre ts (rdAll (rd k) (pc b q j).length (pc b q j)) ∧ Ib w v U it ts ys) (fun p _ => j - (intOf p).toNat)
  case atStart => exact ⟨i, _, _, [], [], rfl, Nat.le_refl _, hij, by simp, by rw [pre_nil]; exact HRES.out.symm, ib_new w⟩
  case round =>
    obtain ⟨q, U, it, ts, ys, rfl, hiq, hqj, htl, hpre, H⟩ := hrel
    obtain ⟨f1, f2, c0, c1, c2, e0, e1, e2⟩ := H.cells H.bel
    have HH := Hid.mk H
    have HP := Hid.mk hpre
    clear H hpre
    by_cases hlt : q < j
    · have hqi : (q : Int) < j := by omega
      have hcal := HF.out a n c b wr (HA.out.at (below_go HH.out.bw HH.out.bel)) hn q j d (by omega) hj hd
      have HC := Hid.mk hcal
      clear hcal
      go_wp2_with fail
      refine HC.out.mono ?_
      rintro e w1 ⟨hb1, hm⟩
      cases hr : rd k (pc b q j) with
      | bad er =>
        rw [hr] at hm
        obtain ⟨rfl, her⟩ := hm
        have hne : pc b q j ≠ [] := by
          intro e
          have := pc_len (b := b) (i := q) (j := j) (by rw [HA.out.l]; omega)
          rw [e] at this
          simp at this
          omega
        have hfin : res = .bad er := by
          rw [HP.out]
          obtain ⟨u, hu⟩ : ∃ u, (pc b q j).length = u + 1 := ⟨(pc b q j).length - 1, by have := List.length_pos_iff.2 hne; omega⟩
          rw [hu, rdAll_bad hne hr]
          rfl
        subst hfin
        have hee : ((er : Int) != 0) = true := by rw [bne_iff_ne]; omega
        have hb2 := below_go HH.out.bel (below_go hb1 (below_new w1 (.cells #[.bool false, .slice none 0 0, .slice none 0 0] 25)))
        obtain ⟨f1, f2, c0, c1, c2, e0, e1, e2⟩ := HH.out.cells hb2
        have HB2 := Hid.mk (below_go HH.out.bw hb2)
        have HRW := Hid.mk (Below.row hb2 HH.out.res)
        clear hb1 hb2 hr hne HC
        go_wp2_with fail
        have hr := put3 HRW.out (.bool false) (.slice none 0 0) (.slice none 0 0)
        refine bodyPost_ret (results_row3 Try.results31 _ _ w.heap.size _ _ _ rfl hr) rfl ?_
        exact ⟨below3 HB2.out (Nat.le_refl _) _ _ _, rfl, her⟩
      | ok t m =>
        rw [hr] at hm
        obtain ⟨y, rfl, hy⟩ := hm
        have hmn := rd_n hr
        rw [pc_len (by rw [HA.out.l]; omega)] at hmn
        have hyl : ys.length ≤ 1000000000 := by have := HH.out.all.len; omega
        obtain ⟨it', w3, hrun, s3, I2⟩ := ib_step HH.out hb1 hy hyl 22
        obtain ⟨ia', n', ic', rfl⟩ := own_slice I2.own
        have hne : pc b q j ≠ [] := by
          intro e
          have := pc_len (b := b) (i := q) (j := j) (by rw [HA.out.l]; omega)
          rw [e] at this
          simp at this
          omega
        have hpre := pre_snoc (f := rd k) (ts := ts) (fun b t m h => (rd_n h).1) hne hr
        have hdrop : (pc b q j).drop m = pc b (q + m) j := by unfold pc; rw [List.drop_drop]
        rw [hdrop, ← HP.out] at hpre
        have hb2 := below_go HH.out.bel (below_go hb1 (below_new w1 (.cells #[.bool y.l, .slice y.ba y.bn y.bc, .slice y.ia y.m y.ic] 25)))
        have hb3 := below_go hb2 (below_new _ (.cells #[.bool y.l, .slice y.ba y.bn y.bc, .slice y.ia y.m y.ic] 25))
        obtain ⟨f1, f2, c0, c1, c2, e0, e1, e2⟩ := HH.out.cells hb2
        obtain ⟨g1, g2, d0, d1, d2, h0, h1, h2⟩ := HH.out.cells s3
        have HRUN := Hid.mk hrun
        have HI2 := Hid.mk I2
        have HPP := Hid.mk hpre
        clear hb1 hb2 hb3 hr hne HC hy hrun s3 I2 hpre hdrop
        go_wp2_with (first | refine wpl_append rfl _ _ rfl _ _ rfl rfl HRUN.out ?_)
        refine ⟨⟨q + m, _, _, ts ++ [t], ys ++ [y], by simp, by omega, by omega, by rw [List.length_append]; simp; omega, HPP.out, HI2.out⟩, by simp [intOf]; omega⟩
    · have hqe : q = j := by omega
      subst hqe
      have hqi : ¬ (q : Int) < q := by omega
      have hfin := HP.out
      rw [pc_nil (Nat.le_refl _), rdAll_nil] at hfin
      simp only [RL.pre, List.append_nil] at hfin
      subst hfin
      obtain ⟨ia, ic, hit, q1, q2, q3⟩ := own_lies (P := fun b => U.heap.size ≤ b) HH.out.own (HH.out.all.mono fun b hb _ => ⟨rfl, hb.1⟩) (fun g hg => (own_lt HH.out.own hg).1)
      subst hit
      have HQ := Hid.mk q3
      clear q3
      go_wp2_with fail
      have hr := put3 (Below.row HH.out.bel HH.out.res) (.bool true) (.slice none 0 0) (.slice ia ts.length ic)
      refine bodyPost_ret (results_row3 Try.results31 _ _ w.heap.size _ _ _ rfl hr) rfl ?_
      have hs := HH.out.sz
      refine ⟨below3 (below_go HH.out.bw HH.out.bel) (Nat.le_refl _) _ _ _, ia, ic, rfl, q1, q2, ?_⟩
      exact liesPAll_mono (fun b (hb : U.heap.size ≤ b) hlt => ⟨other3 (by omega) _ _ _, by omega⟩) (fun u _ => liesP_mono (fun b (hb : U.heap.size ≤ b) hlt => ⟨other3 (by omega) _ _ _, by omega⟩) u) HQ.out
end Go.Proofs.Ytkbdkenpblcofab

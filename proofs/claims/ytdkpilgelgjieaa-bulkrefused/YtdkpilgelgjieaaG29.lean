/- A builder's root; a new one; how many it has taken. -/
import Derived.Test.YtdkpilgelgjieaaG28
import Derived.Test.YtdkpilgelgjieaaG19
import Derived.Test.YtdkpilgelgjieaaG01
import Derived.Test.YtdkpilgelgjieaaG03
import Derived.OrdersIn
import Derived.Test.YtdkpilgelgjieaaG23
namespace Go.Proofs.Ytdkpilgelgjieaa
open Go.RowKit
open Tr
open Di (dref)
set_option linter.unusedVariables false
set_option maxRecDepth 100000
theorem wy_bot {K : Nat → Prop} {w : World} {g : Nat} (xs : List FV) : ∀ (x : FV) (r : List Fk) (f : Fk), WyR w g (x :: xs) → FksAt K w (x :: xs) (f :: r) → w.cell? ⟨g, 0 + 0 * 546, none⟩ = some (.int .i64 ((bot f r : Nat) : Int)) := by
  induction xs with
  | nil =>
    intro x r f h ha
    cases r with
    | cons _ _ => exact ha.2.elim
    | nil =>
      have h1 : w.rangeAt g (0 * 546) x.cells := h.1
      have := f_dep h1
      rw [ha.1.d] at this
      rw [Nat.zero_add]
      exact this
  | cons y xs ih =>
    intro x r f h ha
    cases r with
    | nil => exact ha.2.elim
    | cons g' r => exact ih y r g' h.2 ha.2
theorem Fg.blw {w u w' : World} {v v' : Value} (h : Fg u w' v v') (hb : Bl w u) (ho : ∀ k, v.ownBlock = some k → w.heap.size ≤ k) : Bl w w' := ⟨h.os.trans (Below.os hb), h.tape.trans (Below.tape hb), h.output.trans (Below.output hb), Nat.le_trans hb.size h.size, fun k hk => (h.block k (Nat.lt_of_lt_of_le hk hb.size) (fun e => by have := ho k e; omega)).trans (Below.block hb k hk)⟩
theorem Way.any {X : Nat → Prop} {w : World} {g cap : Nat} {rs : List FV} {fs : List Fk} (h : Way X w g cap rs fs) : Way (fun _ => True) w g cap rs fs := ⟨h.row, h.nc, h.cm, h.y, h.at'.keep (fun b hb _ => ⟨rfl, hb.1, trivial⟩)⟩
theorem rng_go8 {w w' : World} {g off : Nat} {cs : List Value} (h : w.rangeAt g off cs) (hb : Bl w w') : w'.rangeAt g off cs := fun j v hj => (hb.cell (p := ⟨g, off + j, none⟩) (block_lt_of_cell (h j v hj))).trans (h j v hj)
set_option maxHeartbeats 2000000 in
theorem broot_no {Y : Nat → Prop} {w : World} {base gB m : Nat} {pV vW : Value} {rs : List FV} {fs : List Fk} (hC : BuC Y w base gB m pV vW rs fs) (hm0 : m = 0) :
    Calls Try.prog 8 #[.pointer (some ⟨gB, 0, none⟩)] w fun e w' => ∃ u, e = .returned u ∧ (fun u w' => u = .agg (B8 (dref [128])) ∧ Bl w w') u w' := by
  have hB := Bl.refl w
  have hdl := dref_len [128]
  obtain ⟨ds, hds⟩ : ∃ ds, dref [128] = ds := ⟨_, rfl⟩
  rw [hds] at hdl ⊢
  refine cw_enter Try.func8 rfl 40 rfl ?_
  show CW _ _ _ _ _ _ _ [(0, .pointer (some ⟨gB, 0, none⟩))] _
  refine cw_seq ?_
  refine cw_region ?_
  refine rw_new 2 (B8 z32) 24 (fun _ => by kernel_rfl) (fun _ => by kernel_rfl) ?_
  intro w1 gd hnd
  replace hB := hB.go hnd.below
  have hrd : Rw gd w1 (B8 z32) 24 := hnd.row
  have hgd := hnd.hg
  have hC1 := hC.go hnd.below
  have hz1 := hnd.size
  refine rw_nil ?_
  refine nw_then ?_
  refine cw_seq ?_
  refine cw_seq ?_
  refine cw_region ?_
  refine rp 5 (.pointer (some ⟨gB, 0, none⟩)) ?_
  refine rp 6 (.pointer (some ⟨gB, 0, none⟩)) ?_
  refine rp 7 (.pointer (some ⟨gB, 2, none⟩)) ?_
  refine rv 8 (.int .i64 ((m : Nat) : Int)) (fun _ => ol_cell 3 _ ⟨gB, 2, none⟩ _ _ rfl (by kernel_rfl) (by rw [cell_of_row _ _ _ _ _ _ (hC1.row)]; rfl) Try.underlying3 rfl) ?_
  refine rv 9 (.bool true) (fun _ => ol_conv (v := .bool (((m : Nat) : Int) == (0 : Int))) (by kernel_rfl) (congrArg Value.bool (beq_iff_eq.2 (by omega)))) ?_
  refine rw_nil ?_
  refine nw_then ?_
  refine cw_cond_t (fun _ => by kernel_rfl) ?_
  refine cw_seq ?_
  refine cw_region ?_
  refine rw_call 10 16 #[] (fun _ => by kernel_rfl) (fun _ => by kernel_rfl) (R := fun u w' => u = .agg (B8 ds) ∧ Bl (w1) w') ((emptyRoot_any (w1)).mono (fun e w' h => ⟨_, by rw [h.1, hds], rfl, h.2⟩)) ?_
  rintro _ u1 ⟨rfl, hb2⟩
  replace hB := hB.go hb2
  replace hrd := hrd.go hb2
  replace hC1 := hC1.go hb2
  refine rw_put gd (B8 ds) (fun _ => by kernel_rfl) (fun _ => ol_store 24 _ _ _ _ _ _ rfl (by kernel_rfl) (by kernel_rfl) hrd (infoD' hdl) (z8_size hdl) (B8_one _)) ?_
  intro uE hpE
  replace hB : Bl w uE := hpE.below hB (by omega) hB.size
  have hrE : Rw gd uE (B8 ds) 24 := hpE.row hrd
  refine rw_nil ?_
  refine nw_then ?_
  refine cw_ret ?_
  refine nw_ret_then ?_
  exact nw_ret_body (.agg (B8 ds)) (fun _ => results_d Try.results8 _ gd ds hdl (by kernel_rfl) hrE) ⟨_, rfl, rfl, hB⟩
set_option maxHeartbeats 8000000 in
theorem broot_yes {Y : Nat → Prop} (hY : True) {w : World} {base gB m : Nat} {ap : Option Addr} {np cp g cap : Nat} {x0 : FV} {xs0 : List FV} {k v : List Int} {r : List Fk} {t : Tr} (hC : BuC Y w base gB m (.slice ap np cp) (.slice (some ⟨g, 0, none⟩) (x0 :: xs0).length cap) (x0 :: xs0) (⟨(Ni.nib k).length, nk, v⟩ :: r)) (hWy : Way (fun b => b ≠ gB ∧ Y b) w g cap (x0 :: xs0) (⟨(Ni.nib k).length, nk, v⟩ :: r)) (hsp : Sk (fun b => KF (.slice (some ⟨g, 0, none⟩) (x0 :: xs0).length cap) b ∧ b ≠ gB ∧ Y b) w ap np cp (Ni.nib k)) (hspo : Sk (fun b => b < w.heap.size) w ap np cp (Ni.nib k)) (hBd : Bd (Ni.nib k) r v t) (hmp : 0 < m) :
    Calls Try.prog 8 #[.pointer (some ⟨gB, 0, none⟩)] w fun e w' => ∃ u, e = .returned u ∧ (fun u w' => u = .agg (B8 (dref (encT t))) ∧ Bl w w') u w' := by
  have hB := Bl.refl w
  have hdl := dref_len (encT t)
  obtain ⟨ds, hds⟩ : ∃ ds, dref (encT t) = ds := ⟨_, rfl⟩
  rw [hds] at hdl ⊢
  refine cw_enter Try.func8 rfl 40 rfl ?_
  show CW _ _ _ _ _ _ _ [(0, .pointer (some ⟨gB, 0, none⟩))] _
  refine cw_seq ?_
  refine cw_region ?_
  refine rw_new 2 (B8 z32) 24 (fun _ => by kernel_rfl) (fun _ => by kernel_rfl) ?_
  intro w1 gd hnd
  replace hB := hB.go hnd.below
  have hrd : Rw gd w1 (B8 z32) 24 := hnd.row
  have hgd := hnd.hg
  have hC1 := hC.go hnd.below
  have hz1 := hnd.size
  refine rw_nil ?_
  refine nw_then ?_
  refine cw_seq ?_
  refine cw_seq ?_
  refine cw_region ?_
  refine rp 5 (.pointer (some ⟨gB, 0, none⟩)) ?_
  refine rp 6 (.pointer (some ⟨gB, 0, none⟩)) ?_
  refine rp 7 (.pointer (some ⟨gB, 2, none⟩)) ?_
  refine rv 8 (.int .i64 ((m : Nat) : Int)) (fun _ => ol_cell 3 _ ⟨gB, 2, none⟩ _ _ rfl (by kernel_rfl) (by rw [cell_of_row _ _ _ _ _ _ (hC1.row)]; rfl) Try.underlying3 rfl) ?_
  refine rv 9 (.bool false) (fun _ => ol_conv (v := .bool (((m : Nat) : Int) == (0 : Int))) (by kernel_rfl) (congrArg Value.bool (beq_eq_false_iff_ne.2 (by omega)))) ?_
  refine rw_nil ?_
  refine nw_then ?_
  refine cw_cond_f (fun _ => by kernel_rfl) ?_
  refine cw_skip ?_
  refine nw_then ?_
  refine cw_seq ?_
  obtain ⟨tp, htpe⟩ : ∃ q, bot ⟨(Ni.nib k).length, nk, v⟩ r = q := ⟨_, rfl⟩
  have htp := wy_bot _ _ _ _ (hWy.go hB).y (hWy.go hB).at'
  rw [htpe] at htp
  have hbl := bot_le r ⟨(Ni.nib k).length, nk, v⟩ hBd.dw
  rw [htpe] at hbl
  simp only at hbl
  have hpl := hsp.len
  have hk64 := hBd.len
  have hsmm := hC.sm
  have hlw := hWy.lt
  have hgB := lt_of_get hC.row
  refine cw_region ?_
  refine rp 11 (.pointer (some ⟨gB, 0, none⟩)) ?_
  refine rp 12 (.pointer (some ⟨gB, 0, none⟩)) ?_
  refine rp 13 (.pointer (some ⟨gB, 1, none⟩)) ?_
  refine rv 14 (.slice (some ⟨g, 0, none⟩) (x0 :: xs0).length cap) (fun _ => ol_cell 39 _ ⟨gB, 1, none⟩ _ _ rfl (by kernel_rfl) (by rw [cell_of_row _ _ _ _ _ _ (hC1.row)]; rfl) Try.underlying39 rfl) ?_
  refine rv 15 (.pointer (some ⟨g, 0 + 0 * 546, none⟩)) (fun _ => ol_index 39 _ _ g 0 0 (x0 :: xs0).length cap 546 50 rfl (by kernel_rfl) (by kernel_rfl) (by simp) Try.underlying39 (by kernel_rfl)) ?_
  refine rp 16 (.pointer (some ⟨g, 0 + 0 * 546, none⟩)) ?_
  refine rv 17 (.int .i64 ((tp : Nat) : Int)) (fun _ => ol_cell 3 _ _ _ _ rfl (by kernel_rfl) htp Try.underlying3 rfl) ?_
  refine rp 3 (.int .i64 ((tp : Nat) : Int)) ?_
  refine rw_nil ?_
  refine nw_then ?_
  refine cw_seq ?_
  refine cw_draw (fun u => Rw gB u #[.slice ap np cp, .slice (some ⟨g, 0, none⟩) (x0 :: xs0).length cap, .int .i64 ((m : Nat) : Int)] 41) (by kernel_rfl) (hC1.row.go (Below.refl _ _).drew) ?_
  replace hB := hB.drew
  replace hrd := hrd.drew
  replace hC1 := hC1.drew
  refine dt 0 18 (.pointer (some ⟨gB, 0, none⟩)) (fun v hv _ => by kernel_rfl) hC1.row ?_
  refine dt 1 19 (.pointer (some ⟨gB, 0, none⟩)) (fun v hv => (fun _ => by kernel_rfl)) hC1.row ?_
  refine dt 2 20 (.pointer (some ⟨gB, 1, none⟩)) (fun v hv _ => by kernel_rfl) hC1.row ?_
  refine dt 3 21 (.slice (some ⟨g, 0, none⟩) (x0 :: xs0).length cap) (fun v hv _ => ol_cell 39 _ ⟨gB, 1, none⟩ _ _ rfl (by kernel_rfl) (by rw [cell_of_row _ _ _ _ _ _ (hv)]; rfl) Try.underlying39 rfl) hC1.row ?_
  refine dt 5 23 (.pointer (some ⟨gB, 0, none⟩)) (fun v hv _ => by kernel_rfl) hC1.row ?_
  refine dt 6 24 (.pointer (some ⟨gB, 0, none⟩)) (fun v hv => (fun _ => by kernel_rfl)) hC1.row ?_
  refine dt 7 25 (.pointer (some ⟨gB, 0, none⟩)) (fun v hv _ => by kernel_rfl) hC1.row ?_
  refine dt 8 26 (.slice ap np cp) (fun v hv _ => ol_cell 29 _ ⟨gB, 0, none⟩ _ _ rfl (by kernel_rfl) (by rw [cell_of_row _ _ _ _ _ _ (hv)]; rfl) Try.underlying29 rfl) hC1.row ?_
  refine dt 9 27 (.int .i64 ((tp : Nat) : Int)) (fun v hv _ => by kernel_rfl) hC1.row ?_
  refine dw_ready [4] (by kernel_rfl) (by simp) ?_
  have hzd : (w1.drew).heap.size = gd + 1 := hz1
  refine ar_call 4 22 17 #[.slice (some ⟨g, 0, none⟩) (x0 :: xs0).length cap] rfl (fun _ => by kernel_rfl) (fun _ => by kernel_rfl) (R := fun u w' => (∃ g' cap', u = .slice (some ⟨g', 0, none⟩) (x0 :: xs0).length cap' ∧ Way (fun b => b ≠ gB ∧ Y b) w' g' cap' (x0 :: xs0) (⟨(Ni.nib k).length, nk, v⟩ :: r) ∧ (w1.drew).heap.size ≤ g') ∧ Bl (w1.drew) w') (cloneF_any (hWy.go hB) rfl (by simp) (by omega)) (fun u w' h => hC1.row.go h.2) ?_ ar_nil
  rintro _ u3 ⟨⟨g3, cap3, rfl, hW3, hg3⟩, hb3⟩
  have hz0 := hB.size
  replace hB := hB.go hb3
  replace hrd := hrd.go hb3
  replace hC1 := hC1.go hb3
  refine dw_ready [10] (by kernel_rfl) (by simp) ?_
  have hz3 := hB.size
  have hl3 := hW3.lt
  have hCg : Cg (fun _ => True) u3 w.heap.size (.slice (some ⟨g3, 0, none⟩) (x0 :: xs0).length cap3) (Ni.nib k) tp (clo (Ni.nib k) tp ⟨(Ni.nib k).length, nk, v⟩ r) ap np cp g3 cap3 (x0 :: xs0).length x0 xs0 ⟨(Ni.nib k).length, nk, v⟩ r u3 := ⟨hW3.any, rfl, by omega, by omega, hz3, Fg.of_below (Bl.refl _), (hspo.go hB).mono (fun b hb => of_kf (by omega)), hBd.dw, hbl, Nat.le_refl _, rfl⟩
  refine ar_call 10 28 13 #[.slice (some ⟨g3, 0, none⟩) (x0 :: xs0).length cap3, .slice ap np cp, .int .i64 ((tp : Nat) : Int)] rfl (fun _ => by kernel_rfl) (fun _ => by kernel_rfl) (R := RCl (fun _ => True) u3 w.heap.size (.slice (some ⟨g3, 0, none⟩) (x0 :: xs0).length cap3) (clo (Ni.nib k) tp ⟨(Ni.nib k).length, nk, v⟩ r)) (closed_any (X := fun _ => True) (fun _ _ => trivial) hBd.nb hBd.len hCg) (fun u w' ⟨_, _, _, _, _, _, _, hG⟩ => (hC1.row.fg hG (of_kf (by omega))).1) ?_ ar_nil
  rintro _ u4 ⟨g4, cap4, rs4, rfl, hW4, hbg4, hl4, hG4⟩
  have hB4 : Bl w u4 := hG4.blw hB (fun k hk => by have e : g3 = k := by simpa [Value.ownBlock] using hk
                                                   omega)
  have hzb3 := hb3.size
  have hgd4 := kf_of (hrd.fg hG4 (of_kf (by omega))).2
  have hrd4 := (hrd.fg hG4 (of_kf (by omega))).1
  have hR4 := (hC1.row.fg hG4 (of_kf (by omega))).1
  have hrt := hBd.root
  rw [htpe] at hrt
  have hfs := hrt.1
  obtain ⟨x4, hrs4⟩ : ∃ x4, rs4 = [x4] := by
    have hq := hW4.at'
    rw [hfs] at hq
    rcases FksAt.cases hq with ⟨_, e⟩ | ⟨x4, y4, xs4, r4, e1, e2⟩
    · cases e
    · cases e2; rw [e1] at hq; rcases FksAt.cases hq.2 with ⟨e, _⟩ | ⟨_, _, _, _, _, e⟩
      · exact ⟨x4, by rw [e1, e]⟩
      · cases e
  subst hrs4
  have hx4 : u4.rangeAt g4 (0 + 0 * 546) x4.cells := by have := hW4.y.1; simpa using this
  have hk4 := hW4.at'.1
  have hx4l := hk4.l
  clear hC1 hrd hB
  have hB := hB4
  have hrd := hrd4
  refine dt 11 4 (.slice (some ⟨g4, 0, none⟩) [x4].length cap4) (fun v hv _ => by kernel_rfl) hR4 ?_
  refine dw_done (by kernel_rfl) ?_
  refine nw_then ?_
  refine cw_seq ?_
  obtain ⟨a5, n5, c5, hr5, hs5⟩ := (hspo.go hB).cutTo tp (by omega)
  have hl5 := hs5.len
  rw [List.length_take] at hl5
  have hV := Bl.refl u4
  refine cw_draw (fun u => Rw gB u #[.slice ap np cp, .slice (some ⟨g, 0, none⟩) (x0 :: xs0).length cap, .int .i64 ((m : Nat) : Int)] 41 ∧ u.rangeAt g4 (0 + 0 * 546) x4.cells) (by kernel_rfl) (⟨hR4.go (Bl.drew (Bl.refl u4)), rng_go8 hx4 (Bl.drew (Bl.refl u4))⟩) ?_
  replace hV := hV.drew
  replace hB := hB.drew
  replace hrd := hrd.drew
  refine dt 0 29 (.slice (some ⟨g4, 0, none⟩) [x4].length cap4) (fun v hv _ => by kernel_rfl) ⟨hR4.go (hV), rng_go8 hx4 (hV)⟩ ?_
  refine dt 1 30 (.pointer (some ⟨g4, 0 + 0 * 546, none⟩)) (fun v hv _ => ol_index 39 _ _ g4 0 0 [x4].length cap4 546 50 rfl (by kernel_rfl) (by kernel_rfl) (by simp) Try.underlying39 (by kernel_rfl)) ⟨hR4.go (hV), rng_go8 hx4 (hV)⟩ ?_
  refine dt 2 31 (.agg x4.cells.toArray) (fun v hv _ => ol_mid 50 _ g4 (0 + 0 * 546) x4.cells _ rfl (by kernel_rfl) hv.2 Try.underlying50 rfl (by rw [infoF, FV.len hx4l])) ⟨hR4.go (hV), rng_go8 hx4 (hV)⟩ ?_
  refine dt 3 32 (.pointer (some ⟨gB, 0, none⟩)) (fun v hv _ => by kernel_rfl) ⟨hR4.go (hV), rng_go8 hx4 (hV)⟩ ?_
  refine dt 4 33 (.pointer (some ⟨gB, 0, none⟩)) (fun v hv => (fun _ => by kernel_rfl)) ⟨hR4.go (hV), rng_go8 hx4 (hV)⟩ ?_
  refine dt 5 34 (.pointer (some ⟨gB, 0, none⟩)) (fun v hv _ => by kernel_rfl) ⟨hR4.go (hV), rng_go8 hx4 (hV)⟩ ?_
  refine dt 6 35 (.slice ap np cp) (fun v hv _ => ol_cell 29 _ ⟨gB, 0, none⟩ _ _ rfl (by kernel_rfl) (by rw [cell_of_row _ _ _ _ _ _ (hv.1)]; rfl) Try.underlying29 rfl) ⟨hR4.go (hV), rng_go8 hx4 (hV)⟩ ?_
  refine dt 7 36 (.int .i64 ((tp : Nat) : Int)) (fun v hv _ => by kernel_rfl) ⟨hR4.go (hV), rng_go8 hx4 (hV)⟩ ?_
  refine dt 8 37 (.slice a5 n5 c5) (fun v hv _ => hr5 _ _ _ _ _ _ rfl (by kernel_rfl) (by kernel_rfl) rfl) ⟨hR4.go (hV), rng_go8 hx4 (hV)⟩ ?_
  refine dw_ready [9] (by kernel_rfl) (by simp) ?_
  refine ar_call 9 38 19 #[.agg x4.cells.toArray, .slice a5 n5 c5] rfl (fun _ => by kernel_rfl) (fun _ => by kernel_rfl) (R := fun u w' => (∃ a m c, u = .slice a m c ∧ m ≤ 65540 ∧ Sk (fun b => (u4.drew).heap.size ≤ b) w' a m c (encT t)) ∧ Bl (u4.drew) w') (((encoding_any (hk4.keep (keep_bl hV)) (hs5.go hV) (by omega)).mono (fun e w' ⟨u, e1, ⟨a, m, c, e2, e3, e4⟩, e5⟩ => ⟨u, e1, ⟨a, m, c, e2, e3, by rw [hrt.2] at e4; exact e4⟩, e5⟩))) (fun u w' h => ⟨hR4.go (hV.go h.2), rng_go8 hx4 (hV.go h.2)⟩) ?_ ar_nil
  rintro _ u6 ⟨⟨a6, n6, c6, rfl, hm6, hs6⟩, hb6⟩
  replace hV := hV.go hb6
  replace hB := hB.go hb6
  replace hrd := hrd.go hb6
  refine dw_ready [10] (by kernel_rfl) (by simp) ?_
  refine ar_call 10 39 18 #[.slice a6 n6 c6] rfl (fun _ => by kernel_rfl) (fun _ => by kernel_rfl) (R := fun u w' => u = .agg (B8 ds) ∧ Bl u6 w') ((dof_any a6 n6 c6 (encT t) u6 hs6.ag (by omega)).mono (fun e w' h => ⟨_, by rw [h.1, hds], rfl, h.2⟩)) (fun u w' h => ⟨hR4.go (hV.go h.2), rng_go8 hx4 (hV.go h.2)⟩) ?_ ar_nil
  rintro _ u7 ⟨rfl, hb7⟩
  replace hV := hV.go hb7
  replace hB := hB.go hb7
  replace hrd := hrd.go hb7
  refine dw_ready [11] (by kernel_rfl) (by simp) ?_
  have hl4g := hW4.lt
  refine ar_put 11 gd (B8 ds) rfl (fun _ => by kernel_rfl) (fun _ => ol_store 24 _ _ _ _ _ _ rfl (by kernel_rfl) (by kernel_rfl) hrd (infoD' hdl) (z8_size hdl) (B8_one _)) (fun w' h => ⟨(h.other (by omega)).trans (hR4.go hV), fun j u hj => (World.cell?_of_block (h.other (k := g4) (fun e => hgd4 e.symm))).trans (rng_go8 hx4 hV j u hj)⟩) ?_ ar_nil
  intro w1 hp2
  replace hB : Bl w w1 := hp2.below hB (by omega) hB.size
  have hrE : Rw gd w1 (B8 ds) 24 := hp2.row hrd
  refine dw_done (by kernel_rfl) ?_
  refine nw_then ?_
  refine cw_ret ?_
  exact nw_ret_body (.agg (B8 ds)) (fun _ => results_d Try.results8 _ gd ds hdl (by kernel_rfl) hrE) ⟨_, rfl, rfl, hB⟩
theorem broot_any {Y : Nat → Prop} {w : World} {base gB m : Nat} {t : Tr} {lk : Option (List Int)} {vW : Value} (hU : Bu Y w base gB m t lk vW) :
    Calls Try.prog 8 #[.pointer (some ⟨gB, 0, none⟩)] w fun e w' => ∃ u, e = .returned u ∧ u = .agg (B8 (rootP t)) ∧ Bl w w' := by
  obtain ⟨pV, rs, fs, hC, hP⟩ := hU
  rcases hP with ⟨hm0, rfl, rfl, rfl, rfl, rfl, rfl⟩ | ⟨ap, np, cp, k, v, r, rfl, hsp, rfl, hBd, hk0, hk32, rfl, hmp⟩
  · exact broot_no hC hm0
  · rcases hC.wv with ⟨_, _, hf⟩ | ⟨g, cap, rfl, hbg, hWy⟩
    · cases hf
    obtain ⟨x0, xs0, rfl⟩ : ∃ x0 xs0, rs = x0 :: xs0 := by cases rs with | nil => exact hWy.at'.elim | cons x0 xs0 => exact ⟨x0, xs0, rfl⟩
    have hne := hBd.trOk.ne
    rw [show rootP t = dref (encT t) from by unfold rootP; rw [if_neg (fun e => hne (isNo_iff.1 e))]]
    exact broot_yes trivial hC hWy hsp ⟨hsp.ag, fun x hx hn => hsp.old hx hn⟩ hBd hmp
set_option maxHeartbeats 1000000 in
theorem blen_any {Y : Nat → Prop} {w : World} {base gB m : Nat} {t : Tr} {lk : Option (List Int)} {vW : Value} (hU : Bu Y w base gB m t lk vW) :
    Calls Try.prog 10 #[.pointer (some ⟨gB, 0, none⟩)] w fun e w' => ∃ u, e = .returned u ∧ (fun u w' => u = .int .i64 ((m : Nat) : Int) ∧ Bl w w') u w' := by
  have hB := Bl.refl w
  obtain ⟨pV, rs, fs, hC, hP⟩ := hU
  refine cw_enter Try.func10 rfl 7 rfl ?_
  show CW _ _ _ _ _ _ _ [(0, .pointer (some ⟨gB, 0, none⟩))] _
  refine cw_seq ?_
  refine cw_region ?_
  refine rp 2 (.int .i64 0) ?_
  refine rw_nil ?_
  refine nw_then ?_
  refine cw_seq ?_
  refine cw_region ?_
  refine rp 3 (.pointer (some ⟨gB, 0, none⟩)) ?_
  refine rp 4 (.pointer (some ⟨gB, 0, none⟩)) ?_
  refine rp 5 (.pointer (some ⟨gB, 2, none⟩)) ?_
  refine rv 6 (.int .i64 ((m : Nat) : Int)) (fun _ => ol_cell 3 _ ⟨gB, 2, none⟩ _ _ rfl (by kernel_rfl) (by rw [cell_of_row _ _ _ _ _ _ hC.row]; rfl) Try.underlying3 rfl) ?_
  refine rp 2 (.int .i64 ((m : Nat) : Int)) ?_
  refine rw_nil ?_
  refine nw_then ?_
  refine cw_ret ?_
  exact nw_ret_body (.int .i64 ((m : Nat) : Int)) (fun _ => by kernel_rfl) ⟨_, rfl, rfl, hB⟩
set_option maxHeartbeats 1000000 in
theorem bnew_any {Y : Nat → Prop} {w : World} (base : Nat) :
    Calls Try.prog 6 #[] w fun e w' => ∃ u, e = .returned u ∧ (fun u w' => (∃ gB, u = .pointer (some ⟨gB, 0, none⟩) ∧ Bu Y w' base gB 0 no none (.slice none 0 0) ∧ w.heap.size ≤ gB) ∧ Bl w w') u w' := by
  have hB := Bl.refl w
  refine cw_enter Try.func6 rfl 3 rfl ?_
  show CW _ _ _ _ _ _ _ [] _
  refine cw_seq ?_
  refine cw_region ?_
  refine rp 0 (.pointer none) ?_
  refine rw_nil ?_
  refine nw_then ?_
  refine cw_seq ?_
  refine cw_region ?_
  refine rp 1 (.agg #[.slice none 0 0, .slice none 0 0, .int .i64 0]) ?_
  refine rw_new 2 #[.slice none 0 0, .slice none 0 0, .int .i64 0] 41 (fun _ => by kernel_rfl) (fun _ => by kernel_rfl) ?_
  intro w1 gB hnB
  replace hB := hB.go hnB.below
  refine rp 0 (.pointer (some ⟨gB, 0, none⟩)) ?_
  refine rw_nil ?_
  refine nw_then ?_
  refine cw_ret ?_
  exact nw_ret_body (.pointer (some ⟨gB, 0, none⟩)) (fun _ => by kernel_rfl) ⟨_, rfl, ⟨gB, rfl, newB_any hnB base, by rw [hnB.hg]; exact Nat.le_refl _⟩, hB⟩
end Go.Proofs.Ytdkpilgelgjieaa
/- A region that draws its order and in which a loop's round is called. -/
namespace Go.Proofs.Ytdkpilgelgjieaa
open Go.RowKit
set_option linter.unusedVariables false
set_option maxRecDepth 100000
section
variable {m : Nat} {P : Program} {ds : List Deferred} {n : Nat} {Q : Exit → Act → World → Prop} {env : Env} {w w' : World} {ops : Array Oper} {o : Oper} {fuel : Nat} {listed : Array Bool} {rs : List Nat}
end
end Go.Proofs.Ytdkpilgelgjieaa
/- A key that is told lies in a new block. -/
namespace Go.Proofs.Ytdkpilgelgjieaa.Ni
open Go.RowKit
set_option linter.unusedVariables false
end Go.Proofs.Ytdkpilgelgjieaa.Ni
/- All keys and values of a tree, one by one. -/
namespace Go.Proofs.Ytdkpilgelgjieaa
open Go.RowKit
open Tr
set_option linter.unusedVariables false
set_option maxRecDepth 100000
/-- What a round leaves: the blocks of cells below M that are not in U. -/
structure KpU (U : Nat → Prop) (M : Nat) (A B : World) : Prop where
  size : A.heap.size ≤ B.heap.size
  keep : ∀ k cs T fr, k < M → ¬ U k → A.heap[k]? = some (.cells cs T fr) → B.heap[k]? = some (.cells cs T fr)
abbrev PList := List (List Int × List Int)
end Go.Proofs.Ytdkpilgelgjieaa

/- A builder's root; a new one; how many it has taken. -/
import Derived.Test.YtdkpilgelgjieaaGreatG28
import Derived.Test.YtdkpilgelgjieaaGreatG19
import Derived.Test.YtdkpilgelgjieaaGreatG01
import Derived.Test.YtdkpilgelgjieaaGreatG03
import Derived.OrdersIn
import Derived.Test.YtdkpilgelgjieaaGreatG23
namespace Go.Proofs.YtdkpilgelgjieaaGreat
open Go.RowKit
open Tr
open Di (dref)
set_option linter.unusedVariables false
set_option maxRecDepth 100000
theorem wy_bot {K : Nat → Prop} {w : World} {g : Nat} (xs : List FV) : ∀ (x : FV) (r : List Fk) (f : Fk), WyR w g (x :: xs) → FksAt K w (x :: xs) (f :: r) → w.cell? ⟨g, 0 + 0 * 546, none⟩ = some (.int .i64 ((bot f r : Nat) : Int)) := by
  induction xs with
  | nil =>
    intro x r f h ha
    cases r with
    | cons _ _ => exact ha.2.elim
    | nil =>
      have h1 : w.rangeAt g (0 * 546) x.cells := h.1
      have := f_dep h1
      rw [ha.1.d] at this
      rw [Nat.zero_add]
      exact this
  | cons y xs ih =>
    intro x r f h ha
    cases r with
    | nil => exact ha.2.elim
    | cons g' r => exact ih y r g' h.2 ha.2
theorem Fg.blw {w u w' : World} {v v' : Value} (h : Fg u w' v v') (hb : Bl w u) (ho : ∀ k, v.ownBlock = some k → w.heap.size ≤ k) : Bl w w' := ⟨h.os.trans (Below.os hb), h.tape.trans (Below.tape hb), h.output.trans (Below.output hb), Nat.le_trans hb.size h.size, fun k hk => (h.block k (Nat.lt_of_lt_of_le hk hb.size) (fun e => by have := ho k e; omega)).trans (Below.block hb k hk)⟩
theorem Way.any {X : Nat → Prop} {w : World} {g cap : Nat} {rs : List FV} {fs : List Fk} (h : Way X w g cap rs fs) : Way (fun _ => True) w g cap rs fs := ⟨h.row, h.nc, h.cm, h.y, h.at'.keep (fun b hb _ => ⟨rfl, hb.1, trivial⟩)⟩
theorem rng_go8 {w w' : World} {g off : Nat} {cs : List Value} (h : w.rangeAt g off cs) (hb : Bl w w') : w'.rangeAt g off cs := fun j v hj => (hb.cell (p := ⟨g, off + j, none⟩) (block_lt_of_cell (h j v hj))).trans (h j v hj)
set_option maxHeartbeats 2000000 in
theorem broot_no {Y : Nat → Prop} {w : World} {base gB m : Nat} {pV vW : Value} {rs : List FV} {fs : List Fk} (hC : BuC Y w base gB m pV vW rs fs) (hm0 : m = 0) :
    Calls Tryz.prog 15 #[.pointer (some ⟨gB, 0, none⟩)] w fun e w' => ∃ u, e = .returned u ∧ (fun u w' => u = .agg (B8 (dref [128])) ∧ Bl w w') u w' := by
  have hB := Bl.refl w
  have hdl := dref_len [128]
  obtain ⟨ds, hds⟩ : ∃ ds, dref [128] = ds := ⟨_, rfl⟩
  rw [hds] at hdl ⊢
  refine cw_enter Tryz.func15 rfl 40 rfl ?_
  show CW _ _ _ _ _ _ _ [(0, .pointer (some ⟨gB, 0, none⟩))] _
  refine cw_seq ?_
  refine cw_region ?_
  refine rw_new 2 (B8 z32) 24 (fun _ => by kernel_rfl) (fun _ => by kernel_rfl) ?_
  intro w1 gd hnd
  replace hB := hB.go hnd.below
  have hrd : Rw gd w1 (B8 z32) 24 := hnd.row
  have hgd := hnd.hg
  have hC1 := hC.go hnd.below
  have hz1 := hnd.size
  refine rw_nil ?_
  refine nw_then ?_
  refine cw_seq ?_
  refine cw_seq ?_
  refine cw_region ?_
  refine rp 5 (.pointer (some ⟨gB, 0, none⟩)) ?_
  refine rp 6 (.pointer (some ⟨gB, 0, none⟩)) ?_
  refine rp 7 (.pointer (some ⟨gB, 2, none⟩)) ?_
  refine rv 8 (.int .i64 ((m : Nat) : Int)) (fun _ => ol_cell 3 _ ⟨gB, 2, none⟩ _ _ rfl (by kernel_rfl) (by rw [cell_of_row _ _ _ _ _ _ (hC1.row)]; rfl) Tryz.underlying3 rfl) ?_
  refine rv 9 (.bool true) (fun _ => ol_conv (v := .bool (((m : Nat) : Int) == (0 : Int))) (by kernel_rfl) (congrArg Value.bool (beq_iff_eq.2 (by omega)))) ?_
  refine rw_nil ?_
  refine nw_then ?_
  refine cw_cond_t (fun _ => by kernel_rfl) ?_
  refine cw_seq ?_
  refine cw_region ?_
  refine rw_call 10 32 #[] (fun _ => by kernel_rfl) (fun _ => by kernel_rfl) (R := fun u w' => u = .agg (B8 ds) ∧ Bl (w1) w') ((emptyRoot_any (w1)).mono (fun e w' h => ⟨_, by rw [h.1, hds], rfl, h.2⟩)) ?_
  rintro _ u1 ⟨rfl, hb2⟩
  replace hB := hB.go hb2
  replace hrd := hrd.go hb2
  replace hC1 := hC1.go hb2
  refine rw_put gd (B8 ds) (fun _ => by kernel_rfl) (fun _ => ol_store 24 _ _ _ _ _ _ rfl (by kernel_rfl) (by kernel_rfl) hrd (infoD' hdl) (z8_size hdl) (B8_one _)) ?_
  intro uE hpE
  replace hB : Bl w uE := hpE.below hB (by omega) hB.size
  have hrE : Rw gd uE (B8 ds) 24 := hpE.row hrd
  refine rw_nil ?_
  refine nw_then ?_
  refine cw_ret ?_
  refine nw_ret_then ?_
  exact nw_ret_body (.agg (B8 ds)) (fun _ => results_d Tryz.results15 _ gd ds hdl (by kernel_rfl) hrE) ⟨_, rfl, rfl, hB⟩
set_option maxHeartbeats 8000000 in
theorem broot_yes {Y : Nat → Prop} (hY : True) {w : World} {base gB m : Nat} {ap : Option Addr} {np cp g cap : Nat} {x0 : FV} {xs0 : List FV} {k v : List Int} {r : List Fk} {t : Tr} (hC : BuC Y w base gB m (.slice ap np cp) (.slice (some ⟨g, 0, none⟩) (x0 :: xs0).length cap) (x0 :: xs0) (⟨(Ni.nib k).length, nk, v⟩ :: r)) (hWy : Way (fun b => b ≠ gB ∧ Y b) w g cap (x0 :: xs0) (⟨(Ni.nib k).length, nk, v⟩ :: r)) (hsp : Sk (fun b => KF (.slice (some ⟨g, 0, none⟩) (x0 :: xs0).length cap) b ∧ b ≠ gB ∧ Y b) w ap np cp (Ni.nib k)) (hspo : Sk (fun b => b < w.heap.size) w ap np cp (Ni.nib k)) (hBd : Bd (Ni.nib k) r v t) (hmp : 0 < m) :
    Calls Tryz.prog 15 #[.pointer (some ⟨gB, 0, none⟩)] w fun e w' => ∃ u, e = .returned u ∧ (fun u w' => u = .agg (B8 (dref (encT t))) ∧ Bl w w') u w' := by
  have hB := Bl.refl w
  have hdl := dref_len (encT t)
  obtain ⟨ds, hds⟩ : ∃ ds, dref (encT t) = ds := ⟨_, rfl⟩
  rw [hds] at hdl ⊢
  refine cw_enter Tryz.func15 rfl 40 rfl ?_
  show CW _ _ _ _ _ _ _ [(0, .pointer (some ⟨gB, 0, none⟩))] _
  refine cw_seq ?_
  refine cw_region ?_
  refine rw_new 2 (B8 z32) 24 (fun _ => by kernel_rfl) (fun _ => by kernel_rfl) ?_
  intro w1 gd hnd
  replace hB := hB.go hnd.below
  have hrd : Rw gd w1 (B8 z32) 24 := hnd.row
  have hgd := hnd.hg
  have hC1 := hC.go hnd.below
  have hz1 := hnd.size
  refine rw_nil ?_
  refine nw_then ?_
  refine cw_seq ?_
  refine cw_seq ?_
  refine cw_region ?_
  refine rp 5 (.pointer (some ⟨gB, 0, none⟩)) ?_
  refine rp 6 (.pointer (some ⟨gB, 0, none⟩)) ?_
  refine rp 7 (.pointer (some ⟨gB, 2, none⟩)) ?_
  refine rv 8 (.int .i64 ((m : Nat) : Int)) (fun _ => ol_cell 3 _ ⟨gB, 2, none⟩ _ _ rfl (by kernel_rfl) (by rw [cell_of_row _ _ _ _ _ _ (hC1.row)]; rfl) Tryz.underlying3 rfl) ?_
  refine rv 9 (.bool false) (fun _ => ol_conv (v := .bool (((m : Nat) : Int) == (0 : Int))) (by kernel_rfl) (congrArg Value.bool (beq_eq_false_iff_ne.2 (by omega)))) ?_
  refine rw_nil ?_
  refine nw_then ?_
  refine cw_cond_f (fun _ => by kernel_rfl) ?_
  refine cw_skip ?_
  refine nw_then ?_
  refine cw_seq ?_
  obtain ⟨tp, htpe⟩ : ∃ q, bot ⟨(Ni.nib k).length, nk, v⟩ r = q := ⟨_, rfl⟩
  have htp := wy_bot _ _ _ _ (hWy.go hB).y (hWy.go hB).at'
  rw [htpe] at htp
  have hbl := bot_le r ⟨(Ni.nib k).length, nk, v⟩ hBd.dw
  rw [htpe] at hbl
  simp only at hbl
  have hpl := hsp.len
  have hk64 := hBd.len
  have hsmm := hC.sm
  have hlw := hWy.lt
  have hgB := lt_of_get hC.row
  refine cw_region ?_
  refine rp 11 (.pointer (some ⟨gB, 0, none⟩)) ?_
  refine rp 12 (.pointer (some ⟨gB, 0, none⟩)) ?_
  refine rp 13 (.pointer (some ⟨gB, 1, none⟩)) ?_
  refine rv 14 (.slice (some ⟨g, 0, none⟩) (x0 :: xs0).length cap) (fun _ => ol_cell 52 _ ⟨gB, 1, none⟩ _ _ rfl (by kernel_rfl) (by rw [cell_of_row _ _ _ _ _ _ (hC1.row)]; rfl) Tryz.underlying52 rfl) ?_
  refine rv 15 (.pointer (some ⟨g, 0 + 0 * 546, none⟩)) (fun _ => ol_index 52 _ _ g 0 0 (x0 :: xs0).length cap 546 63 rfl (by kernel_rfl) (by kernel_rfl) (by simp) Tryz.underlying52 (by kernel_rfl)) ?_
  refine rp 16 (.pointer (some ⟨g, 0 + 0 * 546, none⟩)) ?_
  refine rv 17 (.int .i64 ((tp : Nat) : Int)) (fun _ => ol_cell 3 _ _ _ _ rfl (by kernel_rfl) htp Tryz.underlying3 rfl) ?_
  refine rp 3 (.int .i64 ((tp : Nat) : Int)) ?_
  refine rw_nil ?_
  refine nw_then ?_
  refine cw_seq ?_
  refine cw_draw (fun u => Rw gB u #[.slice ap np cp, .slice (some ⟨g, 0, none⟩) (x0 :: xs0).length cap, .int .i64 ((m : Nat) : Int)] 54) (by kernel_rfl) (hC1.row.go (Below.refl _ _).drew) ?_
  replace hB := hB.drew
  replace hrd := hrd.drew
  replace hC1 := hC1.drew
  refine dt 0 18 (.pointer (some ⟨gB, 0, none⟩)) (fun v hv _ => by kernel_rfl) hC1.row ?_
  refine dt 1 19 (.pointer (some ⟨gB, 0, none⟩)) (fun v hv => (fun _ => by kernel_rfl)) hC1.row ?_
  refine dt 2 20 (.pointer (some ⟨gB, 1, none⟩)) (fun v hv _ => by kernel_rfl) hC1.row ?_
  refine dt 3 21 (.slice (some ⟨g, 0, none⟩) (x0 :: xs0).length cap) (fun v hv _ => ol_cell 52 _ ⟨gB, 1, none⟩ _ _ rfl (by kernel_rfl) (by rw [cell_of_row _ _ _ _ _ _ (hv)]; rfl) Tryz.underlying52 rfl) hC1.row ?_
  refine dt 5 23 (.pointer (some ⟨gB, 0, none⟩)) (fun v hv _ => by kernel_rfl) hC1.row ?_
  refine dt 6 24 (.pointer (some ⟨gB, 0, none⟩)) (fun v hv => (fun _ => by kernel_rfl)) hC1.row ?_
  refine dt 7 25 (.pointer (some ⟨gB, 0, none⟩)) (fun v hv _ => by kernel_rfl) hC1.row ?_
  refine dt 8 26 (.slice ap np cp) (fun v hv _ => ol_cell 32 _ ⟨gB, 0, none⟩ _ _ rfl (by kernel_rfl) (by rw [cell_of_row _ _ _ _ _ _ (hv)]; rfl) Tryz.underlying32 rfl) hC1.row ?_
  refine dt 9 27 (.int .i64 ((tp : Nat) : Int)) (fun v hv _ => by kernel_rfl) hC1.row ?_
  refine dw_ready [4] (by kernel_rfl) (by simp) ?_
  have hzd : (w1.drew).heap.size = gd + 1 := hz1
  refine ar_call 4 22 33 #[.slice (some ⟨g, 0, none⟩) (x0 :: xs0).length cap] rfl (fun _ => by kernel_rfl) (fun _ => by kernel_rfl) (R := fun u w' => (∃ g' cap', u = .slice (some ⟨g', 0, none⟩) (x0 :: xs0).length cap' ∧ Way (fun b => b ≠ gB ∧ Y b) w' g' cap' (x0 :: xs0) (⟨(Ni.nib k).length, nk, v⟩ :: r) ∧ (w1.drew).heap.size ≤ g') ∧ Bl (w1.drew) w') (cloneF_any (hWy.go hB) rfl (by simp) (by omega)) (fun u w' h => hC1.row.go h.2) ?_ ar_nil
  rintro _ u3 ⟨⟨g3, cap3, rfl, hW3, hg3⟩, hb3⟩
  have hz0 := hB.size
  replace hB := hB.go hb3
  replace hrd := hrd.go hb3
  replace hC1 := hC1.go hb3
  refine dw_ready [10] (by kernel_rfl) (by simp) ?_
  have hz3 := hB.size
  have hl3 := hW3.lt
  have hCg : Cg (fun _ => True) u3 w.heap.size (.slice (some ⟨g3, 0, none⟩) (x0 :: xs0).length cap3) (Ni.nib k) tp (clo (Ni.nib k) tp ⟨(Ni.nib k).length, nk, v⟩ r) ap np cp g3 cap3 (x0 :: xs0).length x0 xs0 ⟨(Ni.nib k).length, nk, v⟩ r u3 := ⟨hW3.any, rfl, by omega, by omega, hz3, Fg.of_below (Bl.refl _), (hspo.go hB).mono (fun b hb => of_kf (by omega)), hBd.dw, hbl, Nat.le_refl _, rfl⟩
  refine ar_call 10 28 28 #[.slice (some ⟨g3, 0, none⟩) (x0 :: xs0).length cap3, .slice ap np cp, .int .i64 ((tp : Nat) : Int)] rfl (fun _ => by kernel_rfl) (fun _ => by kernel_rfl) (R := RCl (fun _ => True) u3 w.heap.size (.slice (some ⟨g3, 0, none⟩) (x0 :: xs0).length cap3) (clo (Ni.nib k) tp ⟨(Ni.nib k).length, nk, v⟩ r)) (closed_any (X := fun _ => True) (fun _ _ => trivial) hBd.nb hBd.len hCg) (fun u w' ⟨_, _, _, _, _, _, _, hG⟩ => (hC1.row.fg hG (of_kf (by omega))).1) ?_ ar_nil
  rintro _ u4 ⟨g4, cap4, rs4, rfl, hW4, hbg4, hl4, hG4⟩
  have hB4 : Bl w u4 := hG4.blw hB (fun k hk => by have e : g3 = k := by simpa [Value.ownBlock] using hk
                                                   omega)
  have hzb3 := hb3.size
  have hgd4 := kf_of (hrd.fg hG4 (of_kf (by omega))).2
  have hrd4 := (hrd.fg hG4 (of_kf (by omega))).1
  have hR4 := (hC1.row.fg hG4 (of_kf (by omega))).1
  have hrt := hBd.root
  rw [htpe] at hrt
  have hfs := hrt.1
  obtain ⟨x4, hrs4⟩ : ∃ x4, rs4 = [x4] := by
    have hq := hW4.at'
    rw [hfs] at hq
    rcases FksAt.cases hq with ⟨_, e⟩ | ⟨x4, y4, xs4, r4, e1, e2⟩
    · cases e
    · cases e2; rw [e1] at hq; rcases FksAt.cases hq.2 with ⟨e, _⟩ | ⟨_, _, _, _, _, e⟩
      · exact ⟨x4, by rw [e1, e]⟩
      · cases e
  subst hrs4
  have hx4 : u4.rangeAt g4 (0 + 0 * 546) x4.cells := by have := hW4.y.1; simpa using this
  have hk4 := hW4.at'.1
  have hx4l := hk4.l
  clear hC1 hrd hB
  have hB := hB4
  have hrd := hrd4
  refine dt 11 4 (.slice (some ⟨g4, 0, none⟩) [x4].length cap4) (fun v hv _ => by kernel_rfl) hR4 ?_
  refine dw_done (by kernel_rfl) ?_
  refine nw_then ?_
  refine cw_seq ?_
  obtain ⟨a5, n5, c5, hr5, hs5⟩ := (hspo.go hB).cutTo tp (by omega)
  have hl5 := hs5.len
  rw [List.length_take] at hl5
  have hV := Bl.refl u4
  refine cw_draw (fun u => Rw gB u #[.slice ap np cp, .slice (some ⟨g, 0, none⟩) (x0 :: xs0).length cap, .int .i64 ((m : Nat) : Int)] 54 ∧ u.rangeAt g4 (0 + 0 * 546) x4.cells) (by kernel_rfl) (⟨hR4.go (Bl.drew (Bl.refl u4)), rng_go8 hx4 (Bl.drew (Bl.refl u4))⟩) ?_
  replace hV := hV.drew
  replace hB := hB.drew
  replace hrd := hrd.drew
  refine dt 0 29 (.slice (some ⟨g4, 0, none⟩) [x4].length cap4) (fun v hv _ => by kernel_rfl) ⟨hR4.go (hV), rng_go8 hx4 (hV)⟩ ?_
  refine dt 1 30 (.pointer (some ⟨g4, 0 + 0 * 546, none⟩)) (fun v hv _ => ol_index 52 _ _ g4 0 0 [x4].length cap4 546 63 rfl (by kernel_rfl) (by kernel_rfl) (by simp) Tryz.underlying52 (by kernel_rfl)) ⟨hR4.go (hV), rng_go8 hx4 (hV)⟩ ?_
  refine dt 2 31 (.agg x4.cells.toArray) (fun v hv _ => ol_mid 63 _ g4 (0 + 0 * 546) x4.cells _ rfl (by kernel_rfl) hv.2 Tryz.underlying63 rfl (by rw [infoF, FV.len hx4l])) ⟨hR4.go (hV), rng_go8 hx4 (hV)⟩ ?_
  refine dt 3 32 (.pointer (some ⟨gB, 0, none⟩)) (fun v hv _ => by kernel_rfl) ⟨hR4.go (hV), rng_go8 hx4 (hV)⟩ ?_
  refine dt 4 33 (.pointer (some ⟨gB, 0, none⟩)) (fun v hv => (fun _ => by kernel_rfl)) ⟨hR4.go (hV), rng_go8 hx4 (hV)⟩ ?_
  refine dt 5 34 (.pointer (some ⟨gB, 0, none⟩)) (fun v hv _ => by kernel_rfl) ⟨hR4.go (hV), rng_go8 hx4 (hV)⟩ ?_
  refine dt 6 35 (.slice ap np cp) (fun v hv _ => ol_cell 32 _ ⟨gB, 0, none⟩ _ _ rfl (by kernel_rfl) (by rw [cell_of_row _ _ _ _ _ _ (hv.1)]; rfl) Tryz.underlying32 rfl) ⟨hR4.go (hV), rng_go8 hx4 (hV)⟩ ?_
  refine dt 7 36 (.int .i64 ((tp : Nat) : Int)) (fun v hv _ => by kernel_rfl) ⟨hR4.go (hV), rng_go8 hx4 (hV)⟩ ?_
  refine dt 8 37 (.slice a5 n5 c5) (fun v hv _ => hr5 _ _ _ _ _ _ rfl (by kernel_rfl) (by kernel_rfl) rfl) ⟨hR4.go (hV), rng_go8 hx4 (hV)⟩ ?_
  refine dw_ready [9] (by kernel_rfl) (by simp) ?_
  refine ar_call 9 38 35 #[.agg x4.cells.toArray, .slice a5 n5 c5] rfl (fun _ => by kernel_rfl) (fun _ => by kernel_rfl) (R := fun u w' => (∃ a m c, u = .slice a m c ∧ m ≤ 65540 ∧ Sk (fun b => (u4.drew).heap.size ≤ b) w' a m c (encT t)) ∧ Bl (u4.drew) w') (((encoding_any (hk4.keep (keep_bl hV)) (hs5.go hV) (by omega)).mono (fun e w' ⟨u, e1, ⟨a, m, c, e2, e3, e4⟩, e5⟩ => ⟨u, e1, ⟨a, m, c, e2, e3, by rw [hrt.2] at e4; exact e4⟩, e5⟩))) (fun u w' h => ⟨hR4.go (hV.go h.2), rng_go8 hx4 (hV.go h.2)⟩) ?_ ar_nil
  rintro _ u6 ⟨⟨a6, n6, c6, rfl, hm6, hs6⟩, hb6⟩
  replace hV := hV.go hb6
  replace hB := hB.go hb6
  replace hrd := hrd.go hb6
  refine dw_ready [10] (by kernel_rfl) (by simp) ?_
  refine ar_call 10 39 34 #[.slice a6 n6 c6] rfl (fun _ => by kernel_rfl) (fun _ => by kernel_rfl) (R := fun u w' => u = .agg (B8 ds) ∧ Bl u6 w') ((dof_any a6 n6 c6 (encT t) u6 hs6.ag (by omega)).mono (fun e w' h => ⟨_, by rw [h.1, hds], rfl, h.2⟩)) (fun u w' h => ⟨hR4.go (hV.go h.2), rng_go8 hx4 (hV.go h.2)⟩) ?_ ar_nil
  rintro _ u7 ⟨rfl, hb7⟩
  replace hV := hV.go hb7
  replace hB := hB.go hb7
  replace hrd := hrd.go hb7
  refine dw_ready [11] (by kernel_rfl) (by simp) ?_
  have hl4g := hW4.lt
  refine ar_put 11 gd (B8 ds) rfl (fun _ => by kernel_rfl) (fun _ => ol_store 24 _ _ _ _ _ _ rfl (by kernel_rfl) (by kernel_rfl) hrd (infoD' hdl) (z8_size hdl) (B8_one _)) (fun w' h => ⟨(h.other (by omega)).trans (hR4.go hV), fun j u hj => (World.cell?_of_block (h.other (k := g4) (fun e => hgd4 e.symm))).trans (rng_go8 hx4 hV j u hj)⟩) ?_ ar_nil
  intro w1 hp2
  replace hB : Bl w w1 := hp2.below hB (by omega) hB.size
  have hrE : Rw gd w1 (B8 ds) 24 := hp2.row hrd
  refine dw_done (by kernel_rfl) ?_
  refine nw_then ?_
  refine cw_ret ?_
  exact nw_ret_body (.agg (B8 ds)) (fun _ => results_d Tryz.results15 _ gd ds hdl (by kernel_rfl) hrE) ⟨_, rfl, rfl, hB⟩
theorem broot_any {Y : Nat → Prop} {w : World} {base gB m : Nat} {t : Tr} {lk : Option (List Int)} {vW : Value} (hU : Bu Y w base gB m t lk vW) :
    Calls Tryz.prog 15 #[.pointer (some ⟨gB, 0, none⟩)] w fun e w' => ∃ u, e = .returned u ∧ u = .agg (B8 (rootP t)) ∧ Bl w w' := by
  obtain ⟨pV, rs, fs, hC, hP⟩ := hU
  rcases hP with ⟨hm0, rfl, rfl, rfl, rfl, rfl, rfl⟩ | ⟨ap, np, cp, k, v, r, rfl, hsp, rfl, hBd, hk0, hk32, rfl, hmp⟩
  · exact broot_no hC hm0
  · rcases hC.wv with ⟨_, _, hf⟩ | ⟨g, cap, rfl, hbg, hWy⟩
    · cases hf
    obtain ⟨x0, xs0, rfl⟩ : ∃ x0 xs0, rs = x0 :: xs0 := by cases rs with | nil => exact hWy.at'.elim | cons x0 xs0 => exact ⟨x0, xs0, rfl⟩
    have hne := hBd.trOk.ne
    rw [show rootP t = dref (encT t) from by unfold rootP; rw [if_neg (fun e => hne (isNo_iff.1 e))]]
    exact broot_yes trivial hC hWy hsp ⟨hsp.ag, fun x hx hn => hsp.old hx hn⟩ hBd hmp
set_option maxHeartbeats 1000000 in
theorem blen_any {Y : Nat → Prop} {w : World} {base gB m : Nat} {t : Tr} {lk : Option (List Int)} {vW : Value} (hU : Bu Y w base gB m t lk vW) :
    Calls Tryz.prog 14 #[.pointer (some ⟨gB, 0, none⟩)] w fun e w' => ∃ u, e = .returned u ∧ (fun u w' => u = .int .i64 ((m : Nat) : Int) ∧ Bl w w') u w' := by
  have hB := Bl.refl w
  obtain ⟨pV, rs, fs, hC, hP⟩ := hU
  refine cw_enter Tryz.func14 rfl 7 rfl ?_
  show CW _ _ _ _ _ _ _ [(0, .pointer (some ⟨gB, 0, none⟩))] _
  refine cw_seq ?_
  refine cw_region ?_
  refine rp 2 (.int .i64 0) ?_
  refine rw_nil ?_
  refine nw_then ?_
  refine cw_seq ?_
  refine cw_region ?_
  refine rp 3 (.pointer (some ⟨gB, 0, none⟩)) ?_
  refine rp 4 (.pointer (some ⟨gB, 0, none⟩)) ?_
  refine rp 5 (.pointer (some ⟨gB, 2, none⟩)) ?_
  refine rv 6 (.int .i64 ((m : Nat) : Int)) (fun _ => ol_cell 3 _ ⟨gB, 2, none⟩ _ _ rfl (by kernel_rfl) (by rw [cell_of_row _ _ _ _ _ _ hC.row]; rfl) Tryz.underlying3 rfl) ?_
  refine rp 2 (.int .i64 ((m : Nat) : Int)) ?_
  refine rw_nil ?_
  refine nw_then ?_
  refine cw_ret ?_
  exact nw_ret_body (.int .i64 ((m : Nat) : Int)) (fun _ => by kernel_rfl) ⟨_, rfl, rfl, hB⟩
set_option maxHeartbeats 1000000 in
theorem bnew_any {Y : Nat → Prop} {w : World} (base : Nat) :
    Calls Tryz.prog 11 #[] w fun e w' => ∃ u, e = .returned u ∧ (fun u w' => (∃ gB, u = .pointer (some ⟨gB, 0, none⟩) ∧ Bu Y w' base gB 0 no none (.slice none 0 0) ∧ w.heap.size ≤ gB) ∧ Bl w w') u w' := by
  have hB := Bl.refl w
  refine cw_enter Tryz.func11 rfl 3 rfl ?_
  show CW _ _ _ _ _ _ _ [] _
  refine cw_seq ?_
  refine cw_region ?_
  refine rp 0 (.pointer none) ?_
  refine rw_nil ?_
  refine nw_then ?_
  refine cw_seq ?_
  refine cw_region ?_
  refine rp 1 (.agg #[.slice none 0 0, .slice none 0 0, .int .i64 0]) ?_
  refine rw_new 2 #[.slice none 0 0, .slice none 0 0, .int .i64 0] 54 (fun _ => by kernel_rfl) (fun _ => by kernel_rfl) ?_
  intro w1 gB hnB
  replace hB := hB.go hnB.below
  refine rp 0 (.pointer (some ⟨gB, 0, none⟩)) ?_
  refine rw_nil ?_
  refine nw_then ?_
  refine cw_ret ?_
  exact nw_ret_body (.pointer (some ⟨gB, 0, none⟩)) (fun _ => by kernel_rfl) ⟨_, rfl, ⟨gB, rfl, newB_any hnB base, by rw [hnB.hg]; exact Nat.le_refl _⟩, hB⟩
end Go.Proofs.YtdkpilgelgjieaaGreat
/- A region that draws its order and in which a loop's round is called. -/
namespace Go.Proofs.YtdkpilgelgjieaaGreat
open Go.RowKit
set_option linter.unusedVariables false
set_option maxRecDepth 100000
def DI (m : Nat) (P : Program) (ds : List Deferred) (n : Nat) (Q : Exit → Act → World → Prop) (ops : Array Oper) (fuel : Nat) (listed : Array Bool) (env : Env) (w : World) : Prop := ∀ a, Frm ds n env a → wpAnyIn Fence.wide m P .any ops Q fuel listed a w
def AI (m : Nat) (P : Program) (ds : List Deferred) (n : Nat) (Q : Exit → Act → World → Prop) (ops : Array Oper) (fuel : Nat) (listed : Array Bool) (env : Env) (w : World) (rs : List Nat) : Prop := ∀ a, Frm ds n env a → AllReadyIn Fence.wide m P .any ops Q fuel listed a w rs
section
variable {m : Nat} {P : Program} {ds : List Deferred} {n : Nat} {Q : Exit → Act → World → Prop} {env : Env} {w w' : World} {ops : Array Oper} {o : Oper} {fuel : Nat} {listed : Array Bool} {rs : List Nat}
theorem di_draw {id : Nat} (hm : P.follows .mixedOrders = true) (h : DI m P ds n Q ops ops.size (Array.replicate ops.size false) env w.drew) : CW none m P ds n Q (.region id ops true) env w := fun a ha => wpIn_region_any (F := Fence.wide) hm (h a ha)
theorem di_done (hr : Region.ready .any ops listed = []) (h : NW ds n Q .normal env w) : DI m P ds n Q ops fuel listed env w := fun a ha => wpAnyIn_done hr (h a ha) fuel
theorem di_ready (rs : List Nat) (hr : Region.ready .any ops listed = rs) (hne : rs ≠ []) (h : AI m P ds n Q ops fuel listed env w rs) : DI m P ds n Q ops (fuel + 1) listed env w := fun a ha => wpAnyIn_ready hr hne (h a ha)
theorem di_take (i d : Nat) (v : Value) (ho : ops[i]? = some o) (hk : tkOk ops listed i = true) (hQ : ∀ c a w, Q (.panic c) (a.put (some d) v) w → Q (.panic c) a w) (hc : ∀ fb, chk n ops env fb o d = true)
    (hr : ∀ w fb, (execOp (ev env fb) o).run P w = .ok (.value v) w) (hb : ∀ w fb, o.about P w (ev env fb) = none) (h : DI m P ds n Q ops fuel (listed.setIfInBounds i true) ((d, v) :: env) w) : DI m P ds n Q ops (fuel + 1) listed env w := fun a ha => by
  obtain ⟨h1, h2, h3, _⟩ := chk_spec (hc (fun t => a.tmps.getD t undef))
  unfold tkOk at hk
  simp only [Bool.and_eq_true] at hk
  refine wpAnyIn_take (v := v) rfl ho hk.1.1 hk.1.2 hk.2 (by rw [h1]; exact hQ) ⟨Or.inl ⟨by rw [ha.want]; exact h3, fun w => by rw [ha.ev]; exact hr w _⟩, fun w => by rw [ha.ev]; exact hb w _⟩ ?_
  rw [h1]
  exact h _ (fr_put ha h2 v)
theorem ai_nil : AI m P ds n Q ops fuel listed env w [] := fun a ha => AllReadyIn.nil
theorem ai_v (i d : Nat) (v : Value) (ho : ops[i]? = some o) (hc : ∀ fb, chk n ops env fb o d = true) (hr : ∀ fb, (execOp (ev env fb) o).run P w = .ok (.value v) w')
    (h : DI m P ds n Q ops fuel (listed.setIfInBounds i true) ((d, v) :: env) w') (hs : AI m P ds n Q ops fuel listed env w rs) : AI m P ds n Q ops fuel listed env w (i :: rs) := fun a ha => by
  obtain ⟨h1, h2, h3, hnd⟩ := chk_spec (hc (fun t => a.tmps.getD t undef))
  refine AllReadyIn.cons ho (fun K hK => ?_) (hs a ha)
  rw [ha.want, if_pos h3]
  refine ⟨fun f _ => trivial, ?_⟩
  rw [Oper.semAt_eq _ _ _ hnd, ha.ev, hr, Oper.uponIn_value, h1]
  exact hK _ _ (h _ (fr_put ha h2 v))
theorem ai_call (i d : Nat) (f : FuncId) (args : Array Value) (ho : ops[i]? = some o) (hc : ∀ fb, chk n ops env fb o d = true) (hr : ∀ fb, (execOp (ev env fb) o).run P w = .ok (.enter f args) w) {R : Value → World → Prop}
    (hcall : Calls P f args w fun e w' => ∃ v, e = .returned v ∧ R v w') (h : ∀ v w', R v w' → DI m P ds n Q ops fuel (listed.setIfInBounds i true) ((d, v) :: env) w')
    (hs : AI m P ds n Q ops fuel listed env w rs) : AI m P ds n Q ops fuel listed env w (i :: rs) := fun a ha => by
  obtain ⟨h1, h2, h3, hnd⟩ := chk_spec (hc (fun t => a.tmps.getD t undef))
  refine AllReadyIn.cons ho (fun K hK => ?_) (hs a ha)
  rw [ha.want, if_pos h3]
  refine ⟨fun f _ => trivial, ?_⟩
  rw [Oper.semAt_eq _ _ _ hnd, ha.ev, hr, Oper.uponIn_enter]
  refine ⟨fun h => absurd h Bool.false_ne_true, ?_⟩
  refine CallsIn.mono' (F := Fence.wide) (callsIn_wide.2 hcall) ?_
  rintro e w' ⟨v, rfl, hR⟩
  rw [h1]
  exact hK _ _ (h v w' hR _ (fr_put ha h2 v))
/-- No depth is asked: the figures are all one. -/
theorem yield_any {m m' lp : Nat} {args : Array Value} {W : World} {R : Ending → World → Prop} (h : YieldAt Fence.wide m P lp args W R) : YieldAt Fence.wide m' P lp args W R := by
  obtain ⟨fn, tmps, assign, body, hy, hR⟩ := h
  exact ⟨fn, tmps, assign, body, hy, hR.1, fun c cs _ => hR.2 c cs (room_wide _)⟩
theorem ai_yield (i d : Nat) (lp : Nat) (args : Array Value) (ho : ops[i]? = some o) (hc : ∀ fb, chk n ops env fb o d = true) (hr : ∀ fb, (execOp (ev env fb) o).run P w = (Instr.yield lp args).run P w) {R : Ending → World → Prop}
    (hY : YieldAt Fence.wide 0 P lp args w R) (h : ∀ e w', R e w' → ∃ v, e = .returned v ∧ DI m P ds n Q ops fuel (listed.setIfInBounds i true) ((d, v) :: env) w')
    (hs : AI m P ds n Q ops fuel listed env w rs) : AI m P ds n Q ops fuel listed env w (i :: rs) := fun a ha => by
  obtain ⟨h1, h2, h3, hnd⟩ := chk_spec (hc (fun t => a.tmps.getD t undef))
  obtain ⟨fn, tmps, assign, body, hy, hR⟩ := yield_any (m' := m - 1) hY
  refine AllReadyIn.cons ho (fun K hK => ?_) (hs a ha)
  rw [ha.want, if_pos h3]
  refine ⟨fun f _ => trivial, ?_⟩
  rw [Oper.semAt_eq _ _ _ hnd, ha.ev, hr, hy, Oper.uponIn_round]
  refine ⟨fun h => absurd h Bool.false_ne_true, ?_⟩
  refine RoundIn.mono (F := Fence.wide) hR ?_
  intro e w' hq
  obtain ⟨v, rfl, hw⟩ := h e w' hq
  show K (a.put o.dst v) w'
  rw [h1]
  exact hK _ _ (hw _ (fr_put ha h2 v))
end
end Go.Proofs.YtdkpilgelgjieaaGreat
/- A key that is told lies in a new block. -/
namespace Go.Proofs.YtdkpilgelgjieaaGreat.Ni
open Go.RowKit
set_option linter.unusedVariables false
set_option maxHeartbeats 1000000 in
theorem key_new (a : Option Addr) (n c : Nat) (p : List Int) (w : World) (h : Ag w a n c p) (hn : n ≤ 140737488355328) :
    Calls Tryz.prog 45 #[.slice a n c] w fun e w' => (∃ a' m, e = .returned (.tuple #[.slice a' m m, .bool (keyP p).2]) ∧ Ag w' a' m m (keyP p).1 ∧ ∀ x, a' = some x → x.block = w.heap.size ∧ Row w.heap.size w' (keyP p).1) ∧ Below w.heap.size w w' := by
  have hl := h.l
  by_cases he : n % 2 = 0
  case neg =>
    rw [keyP_no (fun hh => he (by rw [← hl]; exact hh.2))]
    simp only
    have hei : (n : Int) % 2 = 1 := by omega
    clear h hl he
    go_enter Tryz.func45, Tryz.ntmps45
    go_wp2_with fail
    go_ret2
    exact ⟨⟨none, 0, rfl, ag_nil _, fun x hx => by cases hx⟩, Below.refl _ _⟩
  have hei : (n : Int) % 2 = 0 := by omega
  have hr := right_any a n c p w h hn
  by_cases hrt : rightP p = true
  case neg =>
    rw [keyP_no (fun hh => hrt hh.1)]
    simp only
    rw [show rightP p = false from by simpa using hrt] at hr
    clear h hl he hrt
    go_enter Tryz.func45, Tryz.ntmps45
    go_wp2_with fail
    refine hr.mono ?_
    rintro e w1 ⟨rfl, rfl⟩
    clear hr
    go_wp2_with fail
    go_ret2
    exact ⟨⟨none, 0, rfl, ag_nil _, fun x hx => by cases hx⟩, Below.refl _ _⟩
  rw [keyP_yes hrt (by omega)]
  simp only
  rw [hrt] at hr
  obtain ⟨m, hm⟩ : ∃ m, n / 2 = m := ⟨_, rfl⟩
  have hmn : n = 2 * m := by omega
  subst hmn
  clear hm he hei
  have HKL : Hid ((kk p).length = m) := Hid.mk (by rw [kk_len]; omega)
  have HKB := Hid.mk (kk_isB p h.b hrt)
  have HL := Hid.mk hl
  have HB := Hid.mk h.b
  have HRT := Hid.mk hrt
  have HC := Hid.mk (fun h0 => ag_head h h0)
  have hmk := run_make_row' (P := Tryz.prog) 32 5 (.int .u8 0) 1 Tryz.underlying32 info5b rfl .i64 .i64 m (by omega) (by omega)
  have hrow : Row w.heap.size (w.alloc (.cells (madeCells #[.int .u8 0] m) 5)) (List.replicate m 0) := by
    unfold Row; rw [heap_alloc_new, made_bytes]
  have hbw : Below w.heap.size w (w.alloc (.cells (madeCells #[.int .u8 0] m) 5)) := (Below.refl _ _).alloc (Nat.le_refl _) _
  have HR := Hid.mk hrow
  have HBW := Hid.mk hbw
  have hm2 : (2 * m : Nat) % 2 = 0 := by omega
  have hm3 : ((2 * m : Nat) : Int) % 2 = 0 := by omega
  have hm4 : ((2 * m : Nat) : Int) / 2 = m := by omega
  clear hrow hbw h hl hrt
  go_enter Tryz.func45, Tryz.ntmps45
  go_wp2_with fail
  refine hr.mono ?_
  rintro e w1 ⟨rfl, rfl⟩
  clear hr
  go_wp2_with fail
  go_loopw [21] (fun i v => ∃ k : Nat, k ≤ m ∧ i = .int .i64 k ∧ Row w1.heap.size v ((kk p).take k ++ List.replicate (m - k) 0) ∧ Below w1.heap.size w1 v) (fun i _ => m - (intOf i).toNat)
  case atStart => exact ⟨0, by omega, rfl, by rw [List.take_zero, List.nil_append, Nat.sub_zero]; exact HR.out, HBW.out⟩
  case round =>
    clear HR HBW
    obtain ⟨k, hk, rfl, hrow, hb⟩ := hrel
    by_cases hlt : k < m
    · have hki : (k : Int) < m := by omega
      have hlen : ((kk p).take k ++ List.replicate (m - k) (0 : Int)).length = m := by rw [List.length_append, List.length_replicate, List.length_take, HKL.out]; omega
      have hcell := hrow.cell (i := k) (by omega)
      have hfz := hrow.frozen k
      have hset := hrow.set k ((kk p).getD k 0)
      rw [kk_row p m k HKL.out hlt] at hset
      have hget := kk_get p k (by have := HL.out; omega)
      obtain ⟨g, off, rfl, hnc, hcm, hcs⟩ := HC.out (by omega)
      unfold maxLen at hcm
      have hc1 := (hb.cell (p := ⟨g, off + (2 * k), none⟩) (block_lt_of_cell (hcs (2 * k) (by omega)))).trans (hcs (2 * k) (by omega))
      have hc2 := (hb.cell (p := ⟨g, off + (2 * k + 1), none⟩) (block_lt_of_cell (hcs (2 * k + 1) (by omega)))).trans (hcs (2 * k + 1) (by omega))
      have hx0 := (HB.out _ (getD_mem (l := p) (i := 2 * k) (by have := HL.out; omega))).1
      have hy0 := (HB.out _ (getD_mem (l := p) (i := 2 * k + 1) (by have := HL.out; omega))).1
      have hx1 := right_at HRT.out (i := 2 * k) (by have := HL.out; omega)
      have hy1 := right_at HRT.out (i := 2 * k + 1) (by have := HL.out; omega)
      generalize ((kk p).take k ++ List.replicate (m - k) (0 : Int)).getD k 0 = z at hcell
      generalize p.getD (2 * k) 0 = x at *
      generalize p.getD (2 * k + 1) 0 = y at *
      rw [hget] at hset
      have hor := or16 hx0 hx1 hy0 hy1
      have hkm : 2 * k + 1 < 2 * m := by omega
      have hk1 : (2 * (k : Int)) < ((2 * m : Nat) : Int) := by omega
      have hk2 : (2 * (k : Int) + 1) < ((2 * m : Nat) : Int) := by omega
      have ht1 : (2 * (k : Int)).toNat = 2 * k := by omega
      have ht2 : (2 * (k : Int) + 1).toNat = 2 * k + 1 := by omega
      have HS := Hid.mk hset
      have HBB := Hid.mk hb
      clear hset hb hrow hlen hget hcs
      go_wp2_with fail
      go_region
      all_goals
        go_wp2_with fail
        exact ⟨⟨k + 1, by omega, by simp, HS.out, (HBB.out.setCell (Nat.le_refl _) _).drew⟩, by simp [intOf]; omega⟩
    · have hki : ¬ (k : Int) < m := by omega
      have e : k = m := by omega
      subst e
      rw [Nat.sub_self, List.replicate_zero, List.append_nil, List.take_of_length_le (by rw [HKL.out]; exact Nat.le_refl _)] at hrow
      have HS := Hid.mk hrow
      have HBB := Hid.mk hb
      clear hrow hb
      go_wp2_with fail
      go_ret2
      exact ⟨⟨_, _, rfl, row_ag HS.out HKL.out HKB.out (by omega), fun x hx => by cases hx; exact ⟨rfl, HS.out⟩⟩, HBB.out⟩
end Go.Proofs.YtdkpilgelgjieaaGreat.Ni
/- All keys and values of a tree, one by one. -/
namespace Go.Proofs.YtdkpilgelgjieaaGreat
open Go.RowKit
open Tr
set_option linter.unusedVariables false
set_option maxRecDepth 100000
theorem cells_of_cell {w : World} {a : Addr} {v : Value} (h : w.cell? a = some v) : ∃ cs T fr, w.heap[a.block]? = some (.cells cs T fr) := by
  unfold World.cell? at h
  split at h
  · rename_i cs T fr e; exact ⟨cs, T, fr, e⟩
  · cases h
/-- What a round leaves: the blocks of cells below M that are not in U. -/
structure KpU (U : Nat → Prop) (M : Nat) (A B : World) : Prop where
  size : A.heap.size ≤ B.heap.size
  keep : ∀ k cs T fr, k < M → ¬ U k → A.heap[k]? = some (.cells cs T fr) → B.heap[k]? = some (.cells cs T fr)
theorem KpU.trans {U : Nat → Prop} {M M' : Nat} {A B C : World} (h : KpU U M A B) (g : KpU U M' B C) (hM : M ≤ M') : KpU U M A C := ⟨Nat.le_trans h.size g.size, fun k cs T fr hk hU hh => g.keep k cs T fr (Nat.lt_of_lt_of_le hk hM) hU (h.keep k cs T fr hk hU hh)⟩
theorem KpU.of_below {U : Nat → Prop} {A B : World} (M : Nat) (h : Below A.heap.size A B) : KpU U M A B := ⟨h.size, fun k cs T fr _ _ hh => (h.block k (lt_of_get hh)).trans hh⟩
theorem Rw.kp {U : Nat → Prop} {M : Nat} {A B : World} {g : Nat} {cells : Array Value} {T : TypeId} (h : Rw g A cells T) (hk : KpU U M A B) (hg : g < M) (hU : ¬ U g) : Rw g B cells T := hk.keep g cells T (0, 0) hg hU h
theorem Sk.kp {U K : Nat → Prop} {M : Nat} {A B : World} {a : Option Addr} {n c : Nat} {bs : List Int} (h : Sk K A a n c bs) (hk : KpU U M A B) (hM : A.heap.size ≤ M) (hK : ∀ b, K b → ¬ U b) : Sk K B a n c bs := by
  refine ⟨⟨?_, h.ag.nil, h.ag.l, h.ag.b⟩, h.k⟩
  rcases h.ag.i with h1 | ⟨gb, off, h1, h2, h3, h4, h5, h7⟩
  · exact .inl h1
  · refine .inr ⟨gb, off, h1, h2, h3, h4, h5, fun j hj => ?_⟩
    obtain ⟨cs, T, fr, e⟩ := cells_of_cell (h7 j hj)
    have := hk.keep gb cs T fr (Nat.lt_of_lt_of_le (lt_of_get e) hM) (hK _ (h.k _ h1 h3)) e
    rw [← h7 j hj]
    exact World.cell?_of_block (this.trans e.symm)
theorem TA.kp {U K : Nat → Prop} {M : Nat} {A B : World} (hk : KpU U M A B) (hM : A.heap.size ≤ M) (hK : ∀ b, K b → ¬ U b) : ∀ {t : Tr} {v : Value}, TA K A t v → TA K B t v := by
  intro t
  induction t with
  | no => intro v h; exact h
  | leaf p x => rintro v ⟨a, n, c, a', n', c', h1, h2, h3, h4⟩; exact ⟨a, n, c, a', n', c', h1, h2.kp hk hM hK, h3.kp hk hM hK, h4⟩
  | ext p t ih => rintro v ⟨a, n, c, u, h1, h2, h3⟩; exact ⟨a, n, c, u, h1, h2.kp hk hM hK, ih h3⟩
  | br k x ih => rintro v ⟨vs, a, n, c, h1, h2, h3, h4⟩; exact ⟨vs, a, n, c, h1, fun i hi => ih i (h2 i hi), h3.kp hk hM hK, h4⟩
abbrev PList := List (List Int × List Int)
/-- The one who is told: what holds ahead of each round and behind it. -/
structure Vis (l B0 : Nat) (Z : PList) (U : Nat → Prop) (J : PList → World → Prop) (Jx : World → Prop) : Prop where
  go : ∀ {pre : PList} {W W' : World}, J pre W → Below W.heap.size W W' → J pre W'
  gx : ∀ {W W' : World}, Jx W → Below W.heap.size W W' → Jx W'
  lo : ∀ b, U b → b < B0
  y : ∀ {pre : PList} {W : World} {M : Nat} {a a' : Option Addr} {n c n' c' : Nat} {k x : List Int}, J pre W → (pre ++ [(k, x)]) <+: Z → B0 ≤ M → M ≤ W.heap.size → Sk (fun b => M ≤ b) W a n c k → Sk (fun b => M ≤ b) W a' n' c' x →
    YieldAt Fence.wide 0 Tryz.prog l #[.slice a n c, .slice a' n' c'] W fun e W' => (e = .returned (.bool true) ∧ J (pre ++ [(k, x)]) W' ∧ KpU U M W W') ∨ (e = .returned (.bool false) ∧ Jx W')
/-- What is told: true, and all has been told; false: it was left. -/
def RE (U : Nat → Prop) (J : PList → World → Prop) (Jx : World → Prop) (w : World) (L : PList) : Value → World → Prop := fun u w' => (u = .bool true ∧ J L w' ∧ KpU U w.heap.size w w') ∨ (u = .bool false ∧ Jx w')
/-- The keys and values of a tree behind a path, in order. -/
def entsF (p : List Int) : Tr → PList
  | no => []
  | leaf q x => [((Ni.keyP (p ++ q)).1, x)]
  | ext q c => entsF (p ++ q) c
  | br k x => (if x = [] then [] else [((Ni.keyP p).1, x)]) ++ (List.range 16).flatMap fun i => if (k i).isNo then [] else entsF (p ++ [((i : Nat) : Int)]) (k i)
def fvE (gY : Nat) : Value := .func (.func 44) #[] #[.pointer (some ⟨gY, 0, none⟩)]
set_option maxHeartbeats 2000000 in
theorem cl_any {l B0 : Nat} {Z : PList} {U : Nat → Prop} {J : PList → World → Prop} {Jx : World → Prop} (V : Vis l B0 Z U J Jx) {K K' : Nat → Prop} {w : World} {a a' : Option Addr} {n c n' c' : Nat} {p x : List Int} (hp : Sk K w a n c p) (hx : Sk K' w a' n' c' x) (hn : n ≤ 1000) (hn' : n' ≤ 1000) {gY : Nat} (hY : Rw gY w #[.func (.yield l) #[] #[]] 56) {pre : PList} (hJ : J pre w) (hN : (pre ++ [((Ni.keyP p).1, x)]) <+: Z) (hB0 : B0 ≤ w.heap.size) :
    Calls Tryz.prog 44 #[.slice a n c, .slice a' n' c', .pointer (some ⟨gY, 0, none⟩)] w fun e w' => ∃ u, e = .returned u ∧ RE U J Jx w (pre ++ [((Ni.keyP p).1, x)]) u w' := by
  have hB := Bl.refl w
  refine cw_enter Tryz.func44 rfl 18 rfl ?_
  show CW _ _ _ _ _ _ _ [(0, .slice a n c), (1, .slice a' n' c'), (2, .pointer (some ⟨gY, 0, none⟩))] _
  refine cw_seq ?_
  refine cw_region ?_
  refine rp 5 (.bool false) ?_
  refine rw_nil ?_
  refine nw_then ?_
  refine cw_seq ?_
  refine cw_region ?_
  refine rp 9 (.slice a n c) ?_
  refine rw_call 10 45 #[.slice a n c] (fun _ => by kernel_rfl) (fun _ => by kernel_rfl) (R := fun u w' => (∃ a2 m2, u = .tuple #[.slice a2 m2 m2, .bool (Ni.keyP p).2] ∧ Sk (fun b => (w).heap.size ≤ b) w' a2 m2 m2 (Ni.keyP p).1) ∧ Bl (w) w') ((Ni.key_new a n c p _ hp.ag (by omega)).mono (fun e w' ⟨⟨a2, m2, e1, e2, e3⟩, e4⟩ => ⟨_, e1, ⟨a2, m2, rfl, e2, fun x hx _ => by rw [(e3 x hx).1]; exact Nat.le_refl _⟩, e4⟩)) ?_
  rintro _ u1 ⟨⟨a2, m2, rfl, hk2⟩, hb1⟩
  replace hB := hB.go hb1
  replace hp := hp.go hb1
  replace hx := hx.go hb1
  replace hY := hY.go hb1
  replace hJ := V.go hJ hb1
  refine rp 8 (.tuple #[.slice a2 m2 m2, .bool (Ni.keyP p).2]) ?_
  refine rp 11 (.slice a2 m2 m2) ?_
  refine rp 12 (.bool (Ni.keyP p).2) ?_
  refine rp 6 (.slice a2 m2 m2) ?_
  refine rp 7 (.bool (Ni.keyP p).2) ?_
  refine rw_nil ?_
  refine nw_then ?_
  refine cw_seq ?_
  refine di_draw (by kernel_rfl) ?_
  replace hB := hB.drew
  replace hp := hp.drew
  replace hx := hx.drew
  replace hY := hY.drew
  replace hJ := V.go hJ (Below.refl _ _).drew
  replace hk2 := hk2.drew
  refine di_take 1 14 (.slice a2 m2 m2) rfl (by kernel_rfl) (fun _ _ _ h => h) (fun _ => by kernel_rfl) (fun _ _ => by kernel_rfl) (fun _ _ => rfl) ?_
  refine di_take 2 15 (.slice a' n' c') rfl (by kernel_rfl) (fun _ _ _ h => h) (fun _ => by kernel_rfl) (fun _ _ => by kernel_rfl) (fun _ _ => rfl) ?_
  refine di_ready [0, 3] (by kernel_rfl) (by simp) ?_
  refine ai_v 0 13 (.func (.yield l) #[] #[]) rfl (fun _ => by kernel_rfl) (fun _ => ol_cell 56 _ ⟨gY, 0, none⟩ _ _ rfl (by kernel_rfl) (by rw [cell_of_row _ _ _ _ _ _ hY]; rfl) Tryz.underlying56 rfl) ?_ ?_
  · skip
    refine di_ready [3] (by kernel_rfl) (by simp) ?_
    refine ai_call 3 16 41 #[.slice a' n' c'] rfl (fun _ => by kernel_rfl) (fun _ => by kernel_rfl) (R := fun u w' => ∃ a3 n3 c3, u = .slice a3 n3 c3 ∧ Sk (fun b => (u1.drew).heap.size ≤ b) w' a3 n3 c3 x ∧ Bl (u1.drew) w') (clone_any hx (by omega)) ?_ ai_nil
    rintro _ u2 ⟨a3, n3, c3, rfl, hs3, hb2⟩
    have hsB := hB.size
    replace hB := hB.go hb2
    replace hp := hp.go hb2
    replace hx := hx.go hb2
    replace hY := hY.go hb2
    replace hJ := V.go hJ hb2
    replace hk2 := hk2.go hb2
    refine di_ready [4] (by kernel_rfl) (by simp) ?_
    refine ai_yield 4 17 l #[.slice a2 m2 m2, .slice a3 n3 c3] rfl (fun _ => by kernel_rfl) (fun _ => by kernel_rfl) (V.y (M := w.heap.size) hJ hN hB0 hB.size (hk2.mono (fun b hb => hb)) (hs3.mono (fun b hb => Nat.le_trans hsB hb))) ?_ ai_nil
    rintro e w' (⟨rfl, hJ', hkp⟩ | ⟨rfl, hjx⟩)
    · refine ⟨_, rfl, ?_⟩
      refine di_ready [5] (by kernel_rfl) (by simp) ?_
      refine ai_v (w' := w') 5 5 (.bool true) rfl (fun _ => by kernel_rfl) (fun _ => by kernel_rfl) ?_ ai_nil
      refine di_done (by kernel_rfl) ?_
      refine nw_then ?_
      refine cw_ret ?_
      exact nw_ret_body (.bool true) (fun _ => by kernel_rfl) ⟨_, rfl, .inl ⟨rfl, hJ', (KpU.of_below _ hB).trans hkp (Nat.le_refl _)⟩⟩
    · refine ⟨_, rfl, ?_⟩
      refine di_ready [5] (by kernel_rfl) (by simp) ?_
      refine ai_v (w' := w') 5 5 (.bool false) rfl (fun _ => by kernel_rfl) (fun _ => by kernel_rfl) ?_ ai_nil
      refine di_done (by kernel_rfl) ?_
      refine nw_then ?_
      refine cw_ret ?_
      exact nw_ret_body (.bool false) (fun _ => by kernel_rfl) ⟨_, rfl, .inr ⟨rfl, hjx⟩⟩
  refine ai_call 3 16 41 #[.slice a' n' c'] rfl (fun _ => by kernel_rfl) (fun _ => by kernel_rfl) (R := fun u w' => ∃ a3 n3 c3, u = .slice a3 n3 c3 ∧ Sk (fun b => (u1.drew).heap.size ≤ b) w' a3 n3 c3 x ∧ Bl (u1.drew) w') (clone_any hx (by omega)) ?_ ai_nil
  rintro _ u2 ⟨a3, n3, c3, rfl, hs3, hb2⟩
  have hsB := hB.size
  replace hB := hB.go hb2
  replace hp := hp.go hb2
  replace hx := hx.go hb2
  replace hY := hY.go hb2
  replace hJ := V.go hJ hb2
  replace hk2 := hk2.go hb2
  refine di_ready [0] (by kernel_rfl) (by simp) ?_
  refine ai_v 0 13 (.func (.yield l) #[] #[]) rfl (fun _ => by kernel_rfl) (fun _ => ol_cell 56 _ ⟨gY, 0, none⟩ _ _ rfl (by kernel_rfl) (by rw [cell_of_row _ _ _ _ _ _ hY]; rfl) Tryz.underlying56 rfl) ?_ ai_nil
  refine di_ready [4] (by kernel_rfl) (by simp) ?_
  refine ai_yield 4 17 l #[.slice a2 m2 m2, .slice a3 n3 c3] rfl (fun _ => by kernel_rfl) (fun _ => by kernel_rfl) (V.y (M := w.heap.size) hJ hN hB0 hB.size (hk2.mono (fun b hb => hb)) (hs3.mono (fun b hb => Nat.le_trans hsB hb))) ?_ ai_nil
  rintro e w' (⟨rfl, hJ', hkp⟩ | ⟨rfl, hjx⟩)
  · refine ⟨_, rfl, ?_⟩
    refine di_ready [5] (by kernel_rfl) (by simp) ?_
    refine ai_v (w' := w') 5 5 (.bool true) rfl (fun _ => by kernel_rfl) (fun _ => by kernel_rfl) ?_ ai_nil
    refine di_done (by kernel_rfl) ?_
    refine nw_then ?_
    refine cw_ret ?_
    exact nw_ret_body (.bool true) (fun _ => by kernel_rfl) ⟨_, rfl, .inl ⟨rfl, hJ', (KpU.of_below _ hB).trans hkp (Nat.le_refl _)⟩⟩
  · refine ⟨_, rfl, ?_⟩
    refine di_ready [5] (by kernel_rfl) (by simp) ?_
    refine ai_v (w' := w') 5 5 (.bool false) rfl (fun _ => by kernel_rfl) (fun _ => by kernel_rfl) ?_ ai_nil
    refine di_done (by kernel_rfl) ?_
    refine nw_then ?_
    refine cw_ret ?_
    exact nw_ret_body (.bool false) (fun _ => by kernel_rfl) ⟨_, rfl, .inr ⟨rfl, hjx⟩⟩
end Go.Proofs.YtdkpilgelgjieaaGreat

/- What read, First and Decode answer. -/
import Derived.Test.YtkbdkenpblcofabR6
namespace Go.Proofs.Ytkbdkenpblcofab
open Go.RowKit
set_option linter.unusedVariables false
theorem liesP_list {P : Nat → Prop} {w : World} {ia : Option Addr} {ic : Nat} {ts : List T} (h1 : ts.length ≤ ic) (h2 : ic ≤ maxLen) (h3 : ts.length ≤ 140737488351232) (h : LiesPAll P w ts ia 0) : LiesP P w (.mk true [] ts) ⟨true, none, 0, 0, ia, ts.length, ic⟩ :=
  liesP_eq.2 ⟨⟨rfl, ⟨.inl ⟨rfl, rfl⟩, fun _ => ⟨rfl, rfl⟩, rfl, fun x hx => by cases hx⟩, rfl, h1, h2, ⟨Nat.zero_le _, h3⟩, fun g off e => by cases e⟩, h⟩
set_option maxHeartbeats 2000000 in
theorem read_list (gg : List Int → R) (hlen : ∀ b t m, gg b = .ok t m → 1 ≤ m ∧ m ≤ b.length) (a : Option Addr) (n c d : Nat) (x : Int) (r : List Int) (w : World) (h : Ag w a n c (x :: r)) (hd : d < 8) (hn : n ≤ 140737488351232) (f t : Nat) (hh : hdr (decide (d = 8)) (x :: r) = .ok f t) (hx : 192 ≤ x) (res : R)
    (hall : ∀ (a : Option Addr) (n c : Nat) (b : List Int) (w : World), Ag w a n c b → n < 16777216 → Calls Try.prog 26 #[.slice a n c, .int .i64 (d + 1 : Nat)] w (AllPost w (rdAll gg b.length b)))
    (hres : (match rdAll gg (((x :: r).take t).drop f).length (((x :: r).take t).drop f) with | .bad e => R.bad e | .ok ts => R.ok (.mk true [] ts) t) = res) :
    Calls Try.prog 19 #[.slice a n c, .int .i64 d] w (ReadPost w res) := by
  have hcal := fun w' (hb : Below w.heap.size w w') => bodyAt_any a n c d (x :: r) w' (h.at hb) (by omega) (by omega)
  have hsmall : t - f < 16777216 := by
    rcases hdr_text hh (h.b x (by simp)).2 with h' | ⟨y, hy, hny⟩
    · exact h'
    · exact absurd (h.b y (List.mem_cons_of_mem _ hy)) hny
  simp only [hh, HR.f, HR.t, HR.e] at hcal
  obtain ⟨hft, htn, ht1, _⟩ := hdr_ok hh
  rw [h.l] at htn
  obtain ⟨g, off, rfl, hc1, hc2, hc⟩ := ag_head h (by omega)
  unfold maxLen at hc2
  have hsub := ag_sub h hft htn
  have HCAL := Hid.mk hcal
  have HALL := Hid.mk hall
  have HLEN := Hid.mk hlen
  have HC := Hid.mk hc
  have HSL := Hid.mk hsub.l
  have HRES := Hid.mk hres
  obtain ⟨hx0, hx1⟩ := h.b x (by simp)
  have hn1 : 0 < n := by omega
  have hn2 : (0 : Int) < n := by omega
  have hfi : (f : Int) ≤ t := by omega
  have hti : (t : Int) ≤ n := by omega
  have hx2 : ¬ x < 192 := by omega
  clear hcal hh h hc hres hall hlen
  by_cases hcf : c = f
  · rw [if_pos hcf] at hsub
    have e1 : t = f := by omega
    have e2 : n = f := by omega
    subst e1 e2 hcf
    rw [Nat.sub_self] at hsub HSL
    have HS := Hid.mk hsub
    clear hsub
    go_enter Try.func19, Try.ntmps19
    go_wp2_with fail
    refine (HCAL.out _ ((Below.refl _ _).alloc (Nat.le_refl _) _)).mono ?_
    rintro e w1 ⟨rfl, hb⟩
    rw [show ((0 : Nat) : Int) = 0 from rfl]
    have hres1 : w1.heap[w.heap.size]? = some (.cells #[.bool false, .slice none 0 0, .slice none 0 0] 25) := Below.row hb (heap_alloc_new _ _)
    have hb1 : Below w.heap.size w w1 := ((Below.refl w.heap.size w).alloc (Nat.le_refl _) _).trans (hb.mono (by simp))
    have y0 : w1.cell? ⟨g, off, none⟩ = some (.int .u8 x) := by have := HC.out 0 hn1; exact (hb1.cell (p := ⟨g, off, none⟩) (block_lt_of_cell this)).trans this
    have HR := Hid.mk hres1
    have HB1 := Hid.mk hb1
    clear hres1 hb hb1
    have hct := HALL.out _ _ _ _ w1 (HS.out.at HB1.out) (by omega)
    have HCT := Hid.mk hct
    clear hct
    go_wp2_with fail
    rw [show ((d : Int) + 1) = ((d + 1 : Nat) : Int) from by omega]
    refine HCT.out.mono ?_
    rintro e w2 ⟨hb2, hm⟩
    have hres2 := Below.row hb2 HR.out
    have x0 : w2.cell? ⟨w.heap.size, 0, none⟩ = some (.bool false) := by rw [cell_of_row _ _ _ _ _ _ hres2]; rfl
    have x1 : w2.cell? ⟨w.heap.size, 1, none⟩ = some (.slice none 0 0) := by rw [cell_of_row _ _ _ _ _ _ hres2]; rfl
    have x2 : w2.cell? ⟨w.heap.size, 2, none⟩ = some (.slice none 0 0) := by rw [cell_of_row _ _ _ _ _ _ hres2]; rfl
    have xf : ∀ o, w2.frozen? ⟨w.heap.size, o, none⟩ = false := fun o => frozen_of_row _ _ _ _ _ hres2
    have HR2 := Hid.mk hres2
    have HB2 := Hid.mk (HB1.out.trans (hb2.mono HB1.out.size))
    have hz1 := HB1.out.size
    have hz2 := lt_of_get HR.out
    clear hres2 hb2
    cases hr : rdAll gg (((x :: r).take c).drop c).length (((x :: r).take c).drop c) with
    | bad er =>
      rw [hr] at hm
      obtain ⟨rfl, her⟩ := hm
      have hfin := HRES.out
      rw [hr] at hfin
      have HF := Hid.mk hfin
      have hee : ((er : Int) != 0) = true := by rw [bne_iff_ne]; omega
      clear hr hfin
      go_wp2_with fail
      have hr := put3 HR2.out (.bool false) (.slice none 0 0) (.slice none 0 0)
      refine bodyPost_ret (results_row3 Try.results19 _ _ w.heap.size _ _ _ rfl hr) rfl ?_
      rw [← HF.out]
      exact ⟨below3 HB2.out (Nat.le_refl _) _ _ _, rfl, her⟩
    | ok ts =>
      rw [hr] at hm
      obtain ⟨ia, ic, rfl, hic1, hic2, hli⟩ := hm
      have hfin := HRES.out
      rw [hr] at hfin
      have hlen := rdAll_len HLEN.out _ _ _ hr
      have HF := Hid.mk hfin
      have HLI := Hid.mk hli
      have htl : ts.length ≤ 140737488351232 := by rw [HSL.out] at hlen; omega
      clear hr hfin hli hlen
      go_wp2_with fail
      have hr := put3 HR2.out (.bool true) (.slice none 0 0) (.slice ia ts.length ic)
      refine bodyPost_ret (results_row3 Try.results19 _ _ w.heap.size _ _ _ rfl hr) rfl ?_
      rw [← HF.out]
      refine ⟨below3 HB2.out (Nat.le_refl _) _ _ _, ⟨true, none, 0, 0, ia, ts.length, ic⟩, rfl, ?_⟩
      refine liesP_list hic1 hic2 htl (liesPAll_mono (fun b (hb : w1.heap.size ≤ b) hlt => ⟨other3 (by omega) _ _ _, by omega⟩) (fun u _ => liesP_mono (fun b (hb : w1.heap.size ≤ b) hlt => ⟨other3 (by omega) _ _ _, by omega⟩) u) HLI.out)
  · rw [if_neg hcf] at hsub
    have HS := Hid.mk hsub
    clear hsub
    go_enter Try.func19, Try.ntmps19
    go_wp2_with fail
    refine (HCAL.out _ ((Below.refl _ _).alloc (Nat.le_refl _) _)).mono ?_
    rintro e w1 ⟨rfl, hb⟩
    rw [show ((0 : Nat) : Int) = 0 from rfl]
    have hres1 : w1.heap[w.heap.size]? = some (.cells #[.bool false, .slice none 0 0, .slice none 0 0] 25) := Below.row hb (heap_alloc_new _ _)
    have hb1 : Below w.heap.size w w1 := ((Below.refl w.heap.size w).alloc (Nat.le_refl _) _).trans (hb.mono (by simp))
    have y0 : w1.cell? ⟨g, off, none⟩ = some (.int .u8 x) := by have := HC.out 0 hn1; exact (hb1.cell (p := ⟨g, off, none⟩) (block_lt_of_cell this)).trans this
    have HR := Hid.mk hres1
    have HB1 := Hid.mk hb1
    clear hres1 hb hb1
    have HCT := Hid.mk (HALL.out _ _ _ _ w1 (HS.out.at HB1.out) hsmall)
    go_wp2_with fail
    rw [show ((d : Int) + 1) = ((d + 1 : Nat) : Int) from by omega]
    refine HCT.out.mono ?_
    rintro e w2 ⟨hb2, hm⟩
    have hres2 := Below.row hb2 HR.out
    have x0 : w2.cell? ⟨w.heap.size, 0, none⟩ = some (.bool false) := by rw [cell_of_row _ _ _ _ _ _ hres2]; rfl
    have x1 : w2.cell? ⟨w.heap.size, 1, none⟩ = some (.slice none 0 0) := by rw [cell_of_row _ _ _ _ _ _ hres2]; rfl
    have x2 : w2.cell? ⟨w.heap.size, 2, none⟩ = some (.slice none 0 0) := by rw [cell_of_row _ _ _ _ _ _ hres2]; rfl
    have xf : ∀ o, w2.frozen? ⟨w.heap.size, o, none⟩ = false := fun o => frozen_of_row _ _ _ _ _ hres2
    have HR2 := Hid.mk hres2
    have HB2 := Hid.mk (HB1.out.trans (hb2.mono HB1.out.size))
    have hz1 := HB1.out.size
    have hz2 := lt_of_get HR.out
    clear hres2 hb2
    cases hr : rdAll gg (((x :: r).take t).drop f).length (((x :: r).take t).drop f) with
    | bad er =>
      rw [hr] at hm
      obtain ⟨rfl, her⟩ := hm
      have hfin := HRES.out
      rw [hr] at hfin
      have HF := Hid.mk hfin
      have hee : ((er : Int) != 0) = true := by rw [bne_iff_ne]; omega
      clear hr hfin
      go_wp2_with fail
      have hr := put3 HR2.out (.bool false) (.slice none 0 0) (.slice none 0 0)
      refine bodyPost_ret (results_row3 Try.results19 _ _ w.heap.size _ _ _ rfl hr) rfl ?_
      rw [← HF.out]
      exact ⟨below3 HB2.out (Nat.le_refl _) _ _ _, rfl, her⟩
    | ok ts =>
      rw [hr] at hm
      obtain ⟨ia, ic, rfl, hic1, hic2, hli⟩ := hm
      have hfin := HRES.out
      rw [hr] at hfin
      have hlen := rdAll_len HLEN.out _ _ _ hr
      have HF := Hid.mk hfin
      have HLI := Hid.mk hli
      have htl : ts.length ≤ 140737488351232 := by rw [HSL.out] at hlen; omega
      clear hr hfin hli hlen
      go_wp2_with fail
      have hr := put3 HR2.out (.bool true) (.slice none 0 0) (.slice ia ts.length ic)
      refine bodyPost_ret (results_row3 Try.results19 _ _ w.heap.size _ _ _ rfl hr) rfl ?_
      rw [← HF.out]
      refine ⟨below3 HB2.out (Nat.le_refl _) _ _ _, ⟨true, none, 0, 0, ia, ts.length, ic⟩, rfl, ?_⟩
      refine liesP_list hic1 hic2 htl (liesPAll_mono (fun b (hb : w1.heap.size ≤ b) hlt => ⟨other3 (by omega) _ _ _, by omega⟩) (fun u _ => liesP_mono (fun b (hb : w1.heap.size ≤ b) hlt => ⟨other3 (by omega) _ _ _, by omega⟩) u) HLI.out)
end Go.Proofs.Ytkbdkenpblcofab

/- What read answers. -/
import Derived.Test.YtmofehloiiopfaaG06
namespace Go.Proofs.Ytmofehloiiopfaa
open Go.RowKit
set_option linter.unusedVariables false
set_option maxRecDepth 100000
theorem hdr_bad {deep : Bool} {b : List Int} {e : Nat} (h : hdr deep b = .bad e) : e ≠ 0 := by
  unfold hdr at h
  split at h
  · cases h; decide
  · split at h
    · cases h; decide
    · split at h
      · cases h
      · split at h
        · split at h
          · cases h; assumption
          · split at h
            · cases h; decide
            · cases h
        · split at h
          · cases h; decide
          · cases h
theorem hdr_text {deep : Bool} {x : Int} {r : List Int} {f t : Nat} (h : hdr deep (x :: r) = .ok f t) (hx : x < 256) : t - f < 16777216 ∨ ∃ y ∈ r, ¬ (0 ≤ y ∧ y < 256) := by
  by_cases hall : ∀ y ∈ r, 0 ≤ y ∧ y < 256
  · left
    simp only [hdr] at h
    split at h
    · cases h
    · split at h
      · cases h; decide
      · split at h
        · split at h
          · cases h
          · rename_i h4
            obtain ⟨a1, a2, _, _, a3⟩ := lenIn_ok (Decidable.not_not.1 h4)
            split at h
            · cases h
            · cases h
              obtain ⟨v1, v2⟩ := val_take hall a2 a1
              omega
        · split at h
          · cases h
          · cases h
            omega
  · right
    simpa using hall
theorem hdr_deep {x : Int} {r : List Int} (hx : 192 ≤ x) : hdr true (x :: r) = .bad 21 := by
  simp [hdr, hx]
theorem ag_sub {w : World} {g off n c : Nat} {b : List Int} (h : Ag w (some ⟨g, off, none⟩) n c b) {f t : Nat} (hf : f ≤ t) (ht : t ≤ n) : Ag w (if c = f then some ⟨g, off, none⟩ else some ⟨g, off + f, none⟩) (t - f) (c - f) ((b.take t).drop f) := by
  have hl := h.l
  have hl2 : ((b.take t).drop f).length = t - f := by rw [List.length_drop, List.length_take]; omega
  refine ⟨?_, ?_, hl2, fun x hx => h.b x (List.mem_of_mem_take (List.mem_of_mem_drop hx))⟩
  · by_cases h0 : t - f = 0
    · exact .inl ⟨h0, List.eq_nil_of_length_eq_zero (by omega)⟩
    · rcases h.i with ⟨h1, _⟩ | ⟨g', off', h1, h2, h3, h4, h5, h6⟩
      · omega
      · cases h1
        refine .inr ⟨g, off + f, if_neg (by omega), hl2, by omega, by omega, by omega, fun j hj => ?_⟩
        rw [hl2] at hj
        have := h6 (f + j) (by omega)
        rw [Nat.add_assoc, this]
        simp [List.getD, List.getElem?_drop, List.getElem?_take_of_lt (show f + j < t by omega)]
  · intro hh
    split at hh <;> cases hh
set_option maxHeartbeats 1000000 in
theorem read_bad (a : Option Addr) (n c d : Nat) (b : List Int) (w : World) (h : Ag w a n c b) (hd : d ≤ 8) (hn : n ≤ 140737488351232) (er : Nat) (hh : hdr (decide (d = 8)) b = .bad er) :
    Calls Try.prog 68 #[.slice a n c, .int .i64 d] w (ReadPost w (.bad er)) := by
  have hcal := fun w' (hb : Below w.heap.size w w') => bodyAt_any a n c d b w' (h.at hb) hd (by omega)
  simp only [hh, HR.f, HR.t, HR.e] at hcal
  have her := hdr_bad hh
  have hee : ((er : Int) != 0) = true := by rw [bne_iff_ne]; omega
  have HCAL := Hid.mk hcal
  clear hcal hh h
  go_enter Try.func68, Try.ntmps68
  go_wp2_with fail
  refine (HCAL.out _ ((Below.refl _ _).alloc (Nat.le_refl _) _)).mono ?_
  rintro e w1 ⟨rfl, hb⟩
  rw [show ((0 : Nat) : Int) = 0 from rfl]
  have hres1 : w1.heap[w.heap.size]? = some (.cells #[.bool false, .slice none 0 0, .slice none 0 0] 45) := Below.row hb (heap_alloc_new _ _)
  have hb1 : Below w.heap.size w w1 := ((Below.refl w.heap.size w).alloc (Nat.le_refl _) _).trans (hb.mono (by simp))
  have x0 : w1.cell? ⟨w.heap.size, 0, none⟩ = some (.bool false) := by rw [cell_of_row _ _ _ _ _ _ hres1]; rfl
  have x1 : w1.cell? ⟨w.heap.size, 1, none⟩ = some (.slice none 0 0) := by rw [cell_of_row _ _ _ _ _ _ hres1]; rfl
  have x2 : w1.cell? ⟨w.heap.size, 2, none⟩ = some (.slice none 0 0) := by rw [cell_of_row _ _ _ _ _ _ hres1]; rfl
  have xf : ∀ o, w1.frozen? ⟨w.heap.size, o, none⟩ = false := fun o => frozen_of_row _ _ _ _ _ hres1
  have HR := Hid.mk hres1
  have HB1 := Hid.mk hb1
  clear hres1 hb hb1
  go_wp2_with fail
  have hr := put3 HR.out (.bool false) (.slice none 0 0) (.slice none 0 0)
  refine bodyPost_ret (results_row3 Try.results68 _ _ w.heap.size _ _ _ rfl hr) rfl ?_
  exact ⟨below3 HB1.out (Nat.le_refl _) _ _ _, rfl, her⟩
theorem liesP_text {P : Nat → Prop} {w : World} {g m : Nat} {bs : List Int} (h : Row g w bs) (hl : bs.length = m) (hb : ∀ x ∈ bs, 0 ≤ x ∧ x < 256) (hm : m ≤ 140737488351232) (hP : P g) : LiesP P w (.mk false bs []) ⟨false, some ⟨g, 0, none⟩, m, m, none, 0, 0⟩ := by
  have hm2 : m ≤ 9223372036854775807 := by omega
  refine liesP_eq.2 ⟨⟨rfl, row_ag h hl hb hm2, rfl, Nat.le_refl _, by show 0 ≤ maxLen; unfold maxLen; omega, ⟨hm, by show 0 ≤ _; omega⟩, fun g' off e _ => ?_⟩, liesPAll_nil⟩
  cases e
  exact ⟨hP, fun o => frozen_of_row _ _ _ _ _ h⟩
set_option maxHeartbeats 2000000 in
theorem read_text (a : Option Addr) (n c d : Nat) (x : Int) (r : List Int) (w : World) (h : Ag w a n c (x :: r)) (hd : d ≤ 8) (hn : n ≤ 140737488351232) (f t : Nat) (hh : hdr (decide (d = 8)) (x :: r) = .ok f t) (hx : x < 192) (res : R)
    (hres : (if f = 1 ∧ t = 2 ∧ (x :: r).getD 1 0 < 128 then R.bad 23 else R.ok (.mk false (((x :: r).take t).drop f) []) t) = res) :
    Calls Try.prog 68 #[.slice a n c, .int .i64 d] w (ReadPost w res) := by
  have hcal := fun w' (hb : Below w.heap.size w w') => bodyAt_any a n c d (x :: r) w' (h.at hb) hd (by omega)
  simp only [hh, HR.f, HR.t, HR.e] at hcal
  obtain ⟨hft, htn, ht1, _⟩ := hdr_ok hh
  rw [h.l] at htn
  obtain ⟨g, off, rfl, hc1, hc2, hc⟩ := ag_head h (by omega)
  unfold maxLen at hc2
  have hsub := ag_sub h hft htn
  have HCAL := Hid.mk hcal
  have HA := Hid.mk h
  have HC := Hid.mk hc
  have HSUB := Hid.mk hsub
  have HRES := Hid.mk hres
  have hbb := h.b x (by simp)
  obtain ⟨hx0, hx1⟩ := hbb
  have hn1 : 0 < n := by omega
  have hn2 : (0 : Int) < n := by omega
  clear hcal hh h hc hsub hres
  go_enter Try.func68, Try.ntmps68
  go_wp2_with fail
  refine (HCAL.out _ ((Below.refl _ _).alloc (Nat.le_refl _) _)).mono ?_
  rintro e w1 ⟨rfl, hb⟩
  rw [show ((0 : Nat) : Int) = 0 from rfl]
  have hres1 : w1.heap[w.heap.size]? = some (.cells #[.bool false, .slice none 0 0, .slice none 0 0] 45) := Below.row hb (heap_alloc_new _ _)
  have hb1 : Below w.heap.size w w1 := ((Below.refl w.heap.size w).alloc (Nat.le_refl _) _).trans (hb.mono (by simp))
  have x0 : w1.cell? ⟨w.heap.size, 0, none⟩ = some (.bool false) := by rw [cell_of_row _ _ _ _ _ _ hres1]; rfl
  have x1 : w1.cell? ⟨w.heap.size, 1, none⟩ = some (.slice none 0 0) := by rw [cell_of_row _ _ _ _ _ _ hres1]; rfl
  have x2 : w1.cell? ⟨w.heap.size, 2, none⟩ = some (.slice none 0 0) := by rw [cell_of_row _ _ _ _ _ _ hres1]; rfl
  have xf : ∀ o, w1.frozen? ⟨w.heap.size, o, none⟩ = false := fun o => frozen_of_row _ _ _ _ _ hres1
  have y0 : w1.cell? ⟨g, off, none⟩ = some (.int .u8 x) := by have := HC.out 0 hn1; exact (hb1.cell (p := ⟨g, off, none⟩) (block_lt_of_cell this)).trans this
  have HR := Hid.mk hres1
  have HB1 := Hid.mk hb1
  clear hres1 hb hb1
  have fin : ∀ w1', w1' = w1 → True := fun _ _ => trivial
  by_cases h12 : f = 1 ∧ t = 2
  · obtain ⟨rfl, rfl⟩ := h12
    have y1 : w1.cell? ⟨g, off + 1, none⟩ = some (.int .u8 ((x :: r).getD 1 0)) := by have := HC.out 1 (by omega); exact (HB1.out.cell (p := ⟨g, off + 1, none⟩) (block_lt_of_cell this)).trans this
    have hz := HA.out.b ((x :: r).getD 1 0) (by have hl := HA.out.l; rw [List.getD, List.getElem?_eq_getElem (by omega)]; exact List.getElem_mem _)
    have hres := HRES.out
    obtain ⟨z, hzz⟩ : ∃ z, (x :: r).getD 1 0 = z := ⟨_, rfl⟩
    rw [hzz] at y1 hz hres
    obtain ⟨hz0, hz1⟩ := hz
    have hn3 : (1 : Int) < n := by omega
    clear hzz
    by_cases hz8 : z < 128
    · rw [if_pos ⟨rfl, rfl, hz8⟩] at hres
      subst hres
      go_wp2_with fail
      have hr := put3 HR.out (.bool false) (.slice none 0 0) (.slice none 0 0)
      refine bodyPost_ret (results_row3 Try.results68 _ _ w.heap.size _ _ _ rfl hr) rfl ?_
      exact ⟨below3 HB1.out (Nat.le_refl _) _ _ _, rfl, by decide⟩
    · rw [if_neg (by intro h; exact hz8 h.2.2)] at hres
      subst hres
      have hsub := HSUB.out
      rw [if_neg (by omega)] at hsub
      have HCT := Hid.mk (text_any _ (2 - 1) (c - 1) _ w1 (hsub.at HB1.out) (by omega))
      clear hsub
      go_wp2_with fail
      refine HCT.out.mono ?_
      rintro e w2 ⟨rfl, hrow2, hb2⟩
      have hres2 := Below.row hb2 HR.out
      have x0 : w2.cell? ⟨w.heap.size, 0, none⟩ = some (.bool false) := by rw [cell_of_row _ _ _ _ _ _ hres2]; rfl
      have x1 : w2.cell? ⟨w.heap.size, 1, none⟩ = some (.slice none 0 0) := by rw [cell_of_row _ _ _ _ _ _ hres2]; rfl
      have x2 : w2.cell? ⟨w.heap.size, 2, none⟩ = some (.slice none 0 0) := by rw [cell_of_row _ _ _ _ _ _ hres2]; rfl
      have xf : ∀ o, w2.frozen? ⟨w.heap.size, o, none⟩ = false := fun o => frozen_of_row _ _ _ _ _ hres2
      have HR2 := Hid.mk hres2
      have HROW := Hid.mk hrow2
      have HB2 := Hid.mk (HB1.out.trans (hb2.mono HB1.out.size))
      clear hres2 hrow2 hb2
      go_wp2_with fail
      have hr := put3 HR2.out (.bool false) (.slice (some ⟨w1.heap.size + 1, 0, none⟩) (2 - 1) (2 - 1)) (.slice none 0 0)
      refine bodyPost_ret (results_row3 Try.results68 _ _ w.heap.size _ _ _ rfl hr) rfl ?_
      have hz1 := HB1.out.size
      refine ⟨below3 HB2.out (Nat.le_refl _) _ _ _, ⟨false, some ⟨w1.heap.size + 1, 0, none⟩, 2 - 1, 2 - 1, none, 0, 0⟩, rfl, ?_⟩
      exact liesP_text ((other3 (by omega) _ _ _).trans HROW.out) HSUB.out.l HSUB.out.b (by omega) (by show w.heap.size ≤ _; omega)
  · have hres := HRES.out
    rw [if_neg (fun h => h12 ⟨h.1, h.2.1⟩)] at hres
    subst hres
    have hsub := HSUB.out
    have HSL0 := Hid.mk hsub.l
    have HSB := Hid.mk hsub.b
    have hfi : (f : Int) ≤ t := by omega
    have hti : (t : Int) ≤ n := by omega
    by_cases hcf : c = f
    · rw [if_pos hcf] at hsub
      have e1 : t = f := by omega
      have e2 : n = f := by omega
      subst e1 e2 hcf
      rw [Nat.sub_self] at hsub HSL0
      have HCT := Hid.mk (text_any _ 0 0 _ w1 (hsub.at HB1.out) (by omega))
      have HSL := HSL0
      clear hsub HSUB HSL0
      by_cases hf1 : c = 1
      · subst hf1
        have ht2 : ((1 : Int) == 2) = false := by decide
        go_wp2_with fail
        refine HCT.out.mono ?_
        rintro e w2 ⟨rfl, hrow2, hb2⟩
        have hres2 := Below.row hb2 HR.out
        have x0 : w2.cell? ⟨w.heap.size, 0, none⟩ = some (.bool false) := by rw [cell_of_row _ _ _ _ _ _ hres2]; rfl
        have x1 : w2.cell? ⟨w.heap.size, 1, none⟩ = some (.slice none 0 0) := by rw [cell_of_row _ _ _ _ _ _ hres2]; rfl
        have x2 : w2.cell? ⟨w.heap.size, 2, none⟩ = some (.slice none 0 0) := by rw [cell_of_row _ _ _ _ _ _ hres2]; rfl
        have xf : ∀ o, w2.frozen? ⟨w.heap.size, o, none⟩ = false := fun o => frozen_of_row _ _ _ _ _ hres2
        have HR2 := Hid.mk hres2
        have HROW := Hid.mk hrow2
        have HB2 := Hid.mk (HB1.out.trans (hb2.mono HB1.out.size))
        clear hres2 hrow2 hb2
        go_wp2_with fail
        have hr := put3 HR2.out (.bool false) (.slice (some ⟨w1.heap.size + 1, 0, none⟩) 0 0) (.slice none 0 0)
        refine bodyPost_ret (results_row3 Try.results68 _ _ w.heap.size _ _ _ rfl hr) rfl ?_
        have hz1 := HB1.out.size
        refine ⟨below3 HB2.out (Nat.le_refl _) _ _ _, ⟨false, some ⟨w1.heap.size + 1, 0, none⟩, 0, 0, none, 0, 0⟩, rfl, ?_⟩
        exact liesP_text ((other3 (by omega) _ _ _).trans HROW.out) HSL.out HSB.out (by omega) (by show w.heap.size ≤ _; omega)
      · have hf2 : ((c : Int) == 1) = false := by simp; omega
        go_wp2_with fail
        refine HCT.out.mono ?_
        rintro e w2 ⟨rfl, hrow2, hb2⟩
        have hres2 := Below.row hb2 HR.out
        have x0 : w2.cell? ⟨w.heap.size, 0, none⟩ = some (.bool false) := by rw [cell_of_row _ _ _ _ _ _ hres2]; rfl
        have x1 : w2.cell? ⟨w.heap.size, 1, none⟩ = some (.slice none 0 0) := by rw [cell_of_row _ _ _ _ _ _ hres2]; rfl
        have x2 : w2.cell? ⟨w.heap.size, 2, none⟩ = some (.slice none 0 0) := by rw [cell_of_row _ _ _ _ _ _ hres2]; rfl
        have xf : ∀ o, w2.frozen? ⟨w.heap.size, o, none⟩ = false := fun o => frozen_of_row _ _ _ _ _ hres2
        have HR2 := Hid.mk hres2
        have HROW := Hid.mk hrow2
        have HB2 := Hid.mk (HB1.out.trans (hb2.mono HB1.out.size))
        clear hres2 hrow2 hb2
        go_wp2_with fail
        have hr := put3 HR2.out (.bool false) (.slice (some ⟨w1.heap.size + 1, 0, none⟩) 0 0) (.slice none 0 0)
        refine bodyPost_ret (results_row3 Try.results68 _ _ w.heap.size _ _ _ rfl hr) rfl ?_
        have hz1 := HB1.out.size
        refine ⟨below3 HB2.out (Nat.le_refl _) _ _ _, ⟨false, some ⟨w1.heap.size + 1, 0, none⟩, 0, 0, none, 0, 0⟩, rfl, ?_⟩
        exact liesP_text ((other3 (by omega) _ _ _).trans HROW.out) HSL.out HSB.out (by omega) (by show w.heap.size ≤ _; omega)
    · rw [if_neg hcf] at hsub
      obtain ⟨q, hq⟩ : ∃ q, q = t - f := ⟨_, rfl⟩
      have HCT := Hid.mk (text_any _ (t - f) (c - f) _ w1 (hsub.at HB1.out) (by omega))
      have HSL : Hid ((((x :: r).take t).drop f).length = q) := by rw [hq]; exact HSL0
      have hq2 : q ≤ 140737488351232 := by omega
      have HQ := Hid.mk hq
      clear hsub HSUB HSL0 hq
      by_cases hf1 : f = 1
      · subst hf1
        have ht2 : ((t : Int) == 2) = false := by simp at h12 ⊢; omega
        go_wp2_with fail
        refine HCT.out.mono ?_
        rw [← HQ.out]
        rintro e w2 ⟨rfl, hrow2, hb2⟩
        have hres2 := Below.row hb2 HR.out
        have x0 : w2.cell? ⟨w.heap.size, 0, none⟩ = some (.bool false) := by rw [cell_of_row _ _ _ _ _ _ hres2]; rfl
        have x1 : w2.cell? ⟨w.heap.size, 1, none⟩ = some (.slice none 0 0) := by rw [cell_of_row _ _ _ _ _ _ hres2]; rfl
        have x2 : w2.cell? ⟨w.heap.size, 2, none⟩ = some (.slice none 0 0) := by rw [cell_of_row _ _ _ _ _ _ hres2]; rfl
        have xf : ∀ o, w2.frozen? ⟨w.heap.size, o, none⟩ = false := fun o => frozen_of_row _ _ _ _ _ hres2
        have HR2 := Hid.mk hres2
        have HROW := Hid.mk hrow2
        have HB2 := Hid.mk (HB1.out.trans (hb2.mono HB1.out.size))
        clear hres2 hrow2 hb2
        go_wp2_with fail
        have hr := put3 HR2.out (.bool false) (.slice (some ⟨w1.heap.size + 1, 0, none⟩) q q) (.slice none 0 0)
        refine bodyPost_ret (results_row3 Try.results68 _ _ w.heap.size _ _ _ rfl hr) rfl ?_
        have hz1 := HB1.out.size
        refine ⟨below3 HB2.out (Nat.le_refl _) _ _ _, ⟨false, some ⟨w1.heap.size + 1, 0, none⟩, q, q, none, 0, 0⟩, rfl, ?_⟩
        exact liesP_text ((other3 (by omega) _ _ _).trans HROW.out) HSL.out HSB.out (by omega) (by show w.heap.size ≤ _; omega)
      · have hf2 : ((f : Int) == 1) = false := by simp; omega
        go_wp2_with fail
        refine HCT.out.mono ?_
        rw [← HQ.out]
        rintro e w2 ⟨rfl, hrow2, hb2⟩
        have hres2 := Below.row hb2 HR.out
        have x0 : w2.cell? ⟨w.heap.size, 0, none⟩ = some (.bool false) := by rw [cell_of_row _ _ _ _ _ _ hres2]; rfl
        have x1 : w2.cell? ⟨w.heap.size, 1, none⟩ = some (.slice none 0 0) := by rw [cell_of_row _ _ _ _ _ _ hres2]; rfl
        have x2 : w2.cell? ⟨w.heap.size, 2, none⟩ = some (.slice none 0 0) := by rw [cell_of_row _ _ _ _ _ _ hres2]; rfl
        have xf : ∀ o, w2.frozen? ⟨w.heap.size, o, none⟩ = false := fun o => frozen_of_row _ _ _ _ _ hres2
        have HR2 := Hid.mk hres2
        have HROW := Hid.mk hrow2
        have HB2 := Hid.mk (HB1.out.trans (hb2.mono HB1.out.size))
        clear hres2 hrow2 hb2
        go_wp2_with fail
        have hr := put3 HR2.out (.bool false) (.slice (some ⟨w1.heap.size + 1, 0, none⟩) q q) (.slice none 0 0)
        refine bodyPost_ret (results_row3 Try.results68 _ _ w.heap.size _ _ _ rfl hr) rfl ?_
        have hz1 := HB1.out.size
        refine ⟨below3 HB2.out (Nat.le_refl _) _ _ _, ⟨false, some ⟨w1.heap.size + 1, 0, none⟩, q, q, none, 0, 0⟩, rfl, ?_⟩
        exact liesP_text ((other3 (by omega) _ _ _).trans HROW.out) HSL.out HSB.out (by omega) (by show w.heap.size ≤ _; omega)
end Go.Proofs.Ytmofehloiiopfaa
/- What read, First and Decode answer. -/
namespace Go.Proofs.Ytmofehloiiopfaa
open Go.RowKit
set_option linter.unusedVariables false
set_option maxRecDepth 100000
theorem liesP_list {P : Nat → Prop} {w : World} {ia : Option Addr} {ic : Nat} {ts : List T} (h1 : ts.length ≤ ic) (h2 : ic ≤ maxLen) (h3 : ts.length ≤ 140737488351232) (h : LiesPAll P w ts ia 0) : LiesP P w (.mk true [] ts) ⟨true, none, 0, 0, ia, ts.length, ic⟩ :=
  liesP_eq.2 ⟨⟨rfl, ⟨.inl ⟨rfl, rfl⟩, fun _ => ⟨rfl, rfl⟩, rfl, fun x hx => by cases hx⟩, rfl, h1, h2, ⟨Nat.zero_le _, h3⟩, fun g off e => by cases e⟩, h⟩
set_option maxHeartbeats 2000000 in
theorem read_list (gg : List Int → R) (hlen : ∀ b t m, gg b = .ok t m → 1 ≤ m ∧ m ≤ b.length) (a : Option Addr) (n c d : Nat) (x : Int) (r : List Int) (w : World) (h : Ag w a n c (x :: r)) (hd : d < 8) (hn : n ≤ 140737488351232) (f t : Nat) (hh : hdr (decide (d = 8)) (x :: r) = .ok f t) (hx : 192 ≤ x) (res : R)
    (hall : ∀ (a : Option Addr) (n c : Nat) (b : List Int) (w : World), Ag w a n c b → n < 16777216 → Calls Try.prog 77 #[.slice a n c, .int .i64 (d + 1 : Nat)] w (AllPost w (rdAll gg b.length b)))
    (hres : (match rdAll gg (((x :: r).take t).drop f).length (((x :: r).take t).drop f) with | .bad e => R.bad e | .ok ts => R.ok (.mk true [] ts) t) = res) :
    Calls Try.prog 68 #[.slice a n c, .int .i64 d] w (ReadPost w res) := by
  have hcal := fun w' (hb : Below w.heap.size w w') => bodyAt_any a n c d (x :: r) w' (h.at hb) (by omega) (by omega)
  have hsmall : t - f < 16777216 := by
    rcases hdr_text hh (h.b x (by simp)).2 with h' | ⟨y, hy, hny⟩
    · exact h'
    · exact absurd (h.b y (List.mem_cons_of_mem _ hy)) hny
  simp only [hh, HR.f, HR.t, HR.e] at hcal
  obtain ⟨hft, htn, ht1, _⟩ := hdr_ok hh
  rw [h.l] at htn
  obtain ⟨g, off, rfl, hc1, hc2, hc⟩ := ag_head h (by omega)
  unfold maxLen at hc2
  have hsub := ag_sub h hft htn
  have HCAL := Hid.mk hcal
  have HALL := Hid.mk hall
  have HLEN := Hid.mk hlen
  have HC := Hid.mk hc
  have HSL := Hid.mk hsub.l
  have HRES := Hid.mk hres
  obtain ⟨hx0, hx1⟩ := h.b x (by simp)
  have hn1 : 0 < n := by omega
  have hn2 : (0 : Int) < n := by omega
  have hfi : (f : Int) ≤ t := by omega
  have hti : (t : Int) ≤ n := by omega
  have hx2 : ¬ x < 192 := by omega
  clear hcal hh h hc hres hall hlen
  by_cases hcf : c = f
  · rw [if_pos hcf] at hsub
    have e1 : t = f := by omega
    have e2 : n = f := by omega
    subst e1 e2 hcf
    rw [Nat.sub_self] at hsub HSL
    have HS := Hid.mk hsub
    clear hsub
    go_enter Try.func68, Try.ntmps68
    go_wp2_with fail
    refine (HCAL.out _ ((Below.refl _ _).alloc (Nat.le_refl _) _)).mono ?_
    rintro e w1 ⟨rfl, hb⟩
    rw [show ((0 : Nat) : Int) = 0 from rfl]
    have hres1 : w1.heap[w.heap.size]? = some (.cells #[.bool false, .slice none 0 0, .slice none 0 0] 45) := Below.row hb (heap_alloc_new _ _)
    have hb1 : Below w.heap.size w w1 := ((Below.refl w.heap.size w).alloc (Nat.le_refl _) _).trans (hb.mono (by simp))
    have y0 : w1.cell? ⟨g, off, none⟩ = some (.int .u8 x) := by have := HC.out 0 hn1; exact (hb1.cell (p := ⟨g, off, none⟩) (block_lt_of_cell this)).trans this
    have HR := Hid.mk hres1
    have HB1 := Hid.mk hb1
    clear hres1 hb hb1
    have hct := HALL.out _ _ _ _ w1 (HS.out.at HB1.out) (by omega)
    have HCT := Hid.mk hct
    clear hct
    go_wp2_with fail
    rw [show ((d : Int) + 1) = ((d + 1 : Nat) : Int) from by omega]
    refine HCT.out.mono ?_
    rintro e w2 ⟨hb2, hm⟩
    have hres2 := Below.row hb2 HR.out
    have x0 : w2.cell? ⟨w.heap.size, 0, none⟩ = some (.bool false) := by rw [cell_of_row _ _ _ _ _ _ hres2]; rfl
    have x1 : w2.cell? ⟨w.heap.size, 1, none⟩ = some (.slice none 0 0) := by rw [cell_of_row _ _ _ _ _ _ hres2]; rfl
    have x2 : w2.cell? ⟨w.heap.size, 2, none⟩ = some (.slice none 0 0) := by rw [cell_of_row _ _ _ _ _ _ hres2]; rfl
    have xf : ∀ o, w2.frozen? ⟨w.heap.size, o, none⟩ = false := fun o => frozen_of_row _ _ _ _ _ hres2
    have HR2 := Hid.mk hres2
    have HB2 := Hid.mk (HB1.out.trans (hb2.mono HB1.out.size))
    have hz1 := HB1.out.size
    have hz2 := lt_of_get HR.out
    clear hres2 hb2
    cases hr : rdAll gg (((x :: r).take c).drop c).length (((x :: r).take c).drop c) with
    | bad er =>
      rw [hr] at hm
      obtain ⟨rfl, her⟩ := hm
      have hfin := HRES.out
      rw [hr] at hfin
      have HF := Hid.mk hfin
      have hee : ((er : Int) != 0) = true := by rw [bne_iff_ne]; omega
      clear hr hfin
      go_wp2_with fail
      have hr := put3 HR2.out (.bool false) (.slice none 0 0) (.slice none 0 0)
      refine bodyPost_ret (results_row3 Try.results68 _ _ w.heap.size _ _ _ rfl hr) rfl ?_
      rw [← HF.out]
      exact ⟨below3 HB2.out (Nat.le_refl _) _ _ _, rfl, her⟩
    | ok ts =>
      rw [hr] at hm
      obtain ⟨ia, ic, rfl, hic1, hic2, hli⟩ := hm
      have hfin := HRES.out
      rw [hr] at hfin
      have hlen := rdAll_len HLEN.out _ _ _ hr
      have HF := Hid.mk hfin
      have HLI := Hid.mk hli
      have htl : ts.length ≤ 140737488351232 := by rw [HSL.out] at hlen; omega
      clear hr hfin hli hlen
      go_wp2_with fail
      have hr := put3 HR2.out (.bool true) (.slice none 0 0) (.slice ia ts.length ic)
      refine bodyPost_ret (results_row3 Try.results68 _ _ w.heap.size _ _ _ rfl hr) rfl ?_
      rw [← HF.out]
      refine ⟨below3 HB2.out (Nat.le_refl _) _ _ _, ⟨true, none, 0, 0, ia, ts.length, ic⟩, rfl, ?_⟩
      refine liesP_list hic1 hic2 htl (liesPAll_mono (fun b (hb : w1.heap.size ≤ b) hlt => ⟨other3 (by omega) _ _ _, by omega⟩) (fun u _ => liesP_mono (fun b (hb : w1.heap.size ≤ b) hlt => ⟨other3 (by omega) _ _ _, by omega⟩) u) HLI.out)
  · rw [if_neg hcf] at hsub
    have HS := Hid.mk hsub
    clear hsub
    go_enter Try.func68, Try.ntmps68
    go_wp2_with fail
    refine (HCAL.out _ ((Below.refl _ _).alloc (Nat.le_refl _) _)).mono ?_
    rintro e w1 ⟨rfl, hb⟩
    rw [show ((0 : Nat) : Int) = 0 from rfl]
    have hres1 : w1.heap[w.heap.size]? = some (.cells #[.bool false, .slice none 0 0, .slice none 0 0] 45) := Below.row hb (heap_alloc_new _ _)
    have hb1 : Below w.heap.size w w1 := ((Below.refl w.heap.size w).alloc (Nat.le_refl _) _).trans (hb.mono (by simp))
    have y0 : w1.cell? ⟨g, off, none⟩ = some (.int .u8 x) := by have := HC.out 0 hn1; exact (hb1.cell (p := ⟨g, off, none⟩) (block_lt_of_cell this)).trans this
    have HR := Hid.mk hres1
    have HB1 := Hid.mk hb1
    clear hres1 hb hb1
    have HCT := Hid.mk (HALL.out _ _ _ _ w1 (HS.out.at HB1.out) hsmall)
    go_wp2_with fail
    rw [show ((d : Int) + 1) = ((d + 1 : Nat) : Int) from by omega]
    refine HCT.out.mono ?_
    rintro e w2 ⟨hb2, hm⟩
    have hres2 := Below.row hb2 HR.out
    have x0 : w2.cell? ⟨w.heap.size, 0, none⟩ = some (.bool false) := by rw [cell_of_row _ _ _ _ _ _ hres2]; rfl
    have x1 : w2.cell? ⟨w.heap.size, 1, none⟩ = some (.slice none 0 0) := by rw [cell_of_row _ _ _ _ _ _ hres2]; rfl
    have x2 : w2.cell? ⟨w.heap.size, 2, none⟩ = some (.slice none 0 0) := by rw [cell_of_row _ _ _ _ _ _ hres2]; rfl
    have xf : ∀ o, w2.frozen? ⟨w.heap.size, o, none⟩ = false := fun o => frozen_of_row _ _ _ _ _ hres2
    have HR2 := Hid.mk hres2
    have HB2 := Hid.mk (HB1.out.trans (hb2.mono HB1.out.size))
    have hz1 := HB1.out.size
    have hz2 := lt_of_get HR.out
    clear hres2 hb2
    cases hr : rdAll gg (((x :: r).take t).drop f).length (((x :: r).take t).drop f) with
    | bad er =>
      rw [hr] at hm
      obtain ⟨rfl, her⟩ := hm
      have hfin := HRES.out
      rw [hr] at hfin
      have HF := Hid.mk hfin
      have hee : ((er : Int) != 0) = true := by rw [bne_iff_ne]; omega
      clear hr hfin
      go_wp2_with fail
      have hr := put3 HR2.out (.bool false) (.slice none 0 0) (.slice none 0 0)
      refine bodyPost_ret (results_row3 Try.results68 _ _ w.heap.size _ _ _ rfl hr) rfl ?_
      rw [← HF.out]
      exact ⟨below3 HB2.out (Nat.le_refl _) _ _ _, rfl, her⟩
    | ok ts =>
      rw [hr] at hm
      obtain ⟨ia, ic, rfl, hic1, hic2, hli⟩ := hm
      have hfin := HRES.out
      rw [hr] at hfin
      have hlen := rdAll_len HLEN.out _ _ _ hr
      have HF := Hid.mk hfin
      have HLI := Hid.mk hli
      have htl : ts.length ≤ 140737488351232 := by rw [HSL.out] at hlen; omega
      clear hr hfin hli hlen
      go_wp2_with fail
      have hr := put3 HR2.out (.bool true) (.slice none 0 0) (.slice ia ts.length ic)
      refine bodyPost_ret (results_row3 Try.results68 _ _ w.heap.size _ _ _ rfl hr) rfl ?_
      rw [← HF.out]
      refine ⟨below3 HB2.out (Nat.le_refl _) _ _ _, ⟨true, none, 0, 0, ia, ts.length, ic⟩, rfl, ?_⟩
      refine liesP_list hic1 hic2 htl (liesPAll_mono (fun b (hb : w1.heap.size ≤ b) hlt => ⟨other3 (by omega) _ _ _, by omega⟩) (fun u _ => liesP_mono (fun b (hb : w1.heap.size ≤ b) hlt => ⟨other3 (by omega) _ _ _, by omega⟩) u) HLI.out)
end Go.Proofs.Ytmofehloiiopfaa
/- What read, First and Decode answer. -/
namespace Go.Proofs.Ytmofehloiiopfaa
open Go.RowKit
set_option linter.unusedVariables false
set_option maxRecDepth 100000
theorem read_step (k : Nat) (gg : List Int → R) (hrd : ∀ b, rd k b = rd1 gg (decide (k = 0)) b) (hlen : ∀ b t m, gg b = .ok t m → 1 ≤ m ∧ m ≤ b.length)
    (hall : 0 < k → ∀ (d : Nat), d + k = 8 → ∀ (a : Option Addr) (n c : Nat) (b : List Int) (w : World), Ag w a n c b → n < 16777216 → Calls Try.prog 77 #[.slice a n c, .int .i64 (d + 1 : Nat)] w (AllPost w (rdAll gg b.length b))) : ReadSaid k := by
  intro a n c d b w h hd hn
  rw [hrd]
  have hdec : decide (k = 0) = decide (d = 8) := by by_cases h0 : k = 0 <;> simp [h0] <;> omega
  rw [hdec]
  unfold rd1
  cases hh : hdr (decide (d = 8)) b with
  | bad e => exact read_bad a n c d b w h (by omega) hn e hh
  | ok f t =>
    cases b with
    | nil => simp [hdr] at hh
    | cons x r =>
      dsimp only
      by_cases hx : (x :: r).headD 0 < 192
      · rw [if_pos hx]
        exact read_text a n c d x r w h (by omega) hn f t hh hx _ rfl
      · rw [if_neg hx]
        have hx2 : ¬ x < 192 := hx
        have hk : 0 < k := by
          cases k with
          | succ k => omega
          | zero =>
            exfalso
            have hd8 : decide (d = 8) = true := by simp; omega
            rw [hd8, hdr_deep (by omega)] at hh
            cases hh
        exact read_list gg hlen a n c d x r w h (by omega) hn f t hh (by omega) _ (hall hk d hd) rfl
theorem read_any : ∀ k, ReadSaid k
  | 0 => read_step 0 (fun _ => .bad 21) (fun b => rfl) (fun b t m h => by cases h) (fun h => absurd h (by omega))
  | k + 1 => read_step (k + 1) (rd k) (fun b => rfl) (fun b t m h => rd_n h) (fun _ d hd a n c b w h hn => readAll_any k (read_any k) a n c (d + 1) b w h (by omega) hn)
set_option maxHeartbeats 1000000 in
theorem first_any (a : Option Addr) (n c : Nat) (b : List Int) (w : World) (h : Ag w a n c b) (hn : n ≤ 140737488351232) : Calls Try.prog 48 #[.slice a n c] w (ReadPost w (rd 8 b)) := by
  have hcal := fun w' (hb : Below w.heap.size w w') => read_any 8 a n c 0 b w' (h.at hb) (by omega) hn
  rw [show ((0 : Nat) : Int) = 0 from rfl] at hcal
  have HCAL := Hid.mk hcal
  obtain ⟨res, hres⟩ : ∃ r, rd 8 b = r := ⟨_, rfl⟩
  rw [hres] at HCAL ⊢
  clear hcal h hres
  go_enter Try.func48, Try.ntmps48
  go_wp2_with fail
  refine (HCAL.out _ ((Below.refl _ _).alloc (Nat.le_refl _) _)).mono ?_
  rintro e w1 ⟨hb, hm⟩
  have hres1 : w1.heap[w.heap.size]? = some (.cells #[.bool false, .slice none 0 0, .slice none 0 0] 45) := Below.row hb (heap_alloc_new _ _)
  have hb1 : Below w.heap.size w w1 := ((Below.refl w.heap.size w).alloc (Nat.le_refl _) _).trans (hb.mono (by simp))
  have x0 : w1.cell? ⟨w.heap.size, 0, none⟩ = some (.bool false) := by rw [cell_of_row _ _ _ _ _ _ hres1]; rfl
  have x1 : w1.cell? ⟨w.heap.size, 1, none⟩ = some (.slice none 0 0) := by rw [cell_of_row _ _ _ _ _ _ hres1]; rfl
  have x2 : w1.cell? ⟨w.heap.size, 2, none⟩ = some (.slice none 0 0) := by rw [cell_of_row _ _ _ _ _ _ hres1]; rfl
  have xf : ∀ o, w1.frozen? ⟨w.heap.size, o, none⟩ = false := fun o => frozen_of_row _ _ _ _ _ hres1
  have HR := Hid.mk hres1
  have HB1 := Hid.mk hb1
  clear hres1 hb hb1
  cases res with
  | bad er =>
    obtain ⟨rfl, her⟩ := hm
    go_wp2_with fail
    have hr := put3 HR.out (.bool false) (.slice none 0 0) (.slice none 0 0)
    refine bodyPost_ret (results_row3 Try.results48 _ _ w.heap.size _ _ _ rfl hr) rfl ?_
    exact ⟨below3 HB1.out (Nat.le_refl _) _ _ _, rfl, her⟩
  | ok t m =>
    obtain ⟨y, rfl, hy⟩ := hm
    have HY := Hid.mk hy
    clear hy
    go_wp2_with fail
    have hr := put3 HR.out (.bool y.l) (.slice y.ba y.bn y.bc) (.slice y.ia y.m y.ic)
    refine bodyPost_ret (results_row3 Try.results48 _ _ w.heap.size _ _ _ rfl hr) rfl ?_
    refine ⟨below3 HB1.out (Nat.le_refl _) _ _ _, y, rfl, liesP_mono (fun b hb hlt => ?_) t y HY.out⟩
    have hb' : w.heap.size + 1 ≤ b := by have : (w.alloc (.cells #[.bool false, .slice none 0 0, .slice none 0 0] 45)).heap.size ≤ b := hb; simpa using this
    exact ⟨other3 (by omega) _ _ _, by omega⟩
inductive RT where
  | bad (e : Nat)
  | ok (t : T)
/-- What Decode tells. -/
def decP (b : List Int) : RT := match rd 8 b with
  | .bad e => .bad e
  | .ok t n => if n < b.length then .bad 24 else .ok t
def DecPost (w : World) (r : RT) : Ending → World → Prop := fun e w' => Below w.heap.size w w' ∧
  match r with
  | .bad er => e = .returned (.tuple #[.agg #[.bool false, .slice none 0 0, .slice none 0 0], .int .i64 (er : Nat)]) ∧ er ≠ 0
  | .ok t => ∃ y : V, e = .returned (.tuple #[.agg #[.bool y.l, .slice y.ba y.bn y.bc, .slice y.ia y.m y.ic], .int .i64 0]) ∧ LiesP (fun b => w.heap.size ≤ b) w' t y
/-- Any world of which something holds, in the place of one. -/
theorem gen_w {W : World} {p q : World → Prop} (F : q W) (h : ∀ v, q v → p v) : p W := h W F
/-- The result's block, while a call goes on. -/
structure Rb (w v : World) : Prop where
  row : v.heap[w.heap.size]? = some (.cells #[.bool false, .slice none 0 0, .slice none 0 0] 45)
  bel : Below w.heap.size w v
theorem Rb.x0 {w v : World} (h : Rb w v) : v.cell? ⟨w.heap.size, 0, none⟩ = some (.bool false) := by rw [cell_of_row _ _ _ _ _ _ h.row]; rfl
theorem Rb.x1 {w v : World} (h : Rb w v) : v.cell? ⟨w.heap.size, 1, none⟩ = some (.slice none 0 0) := by rw [cell_of_row _ _ _ _ _ _ h.row]; rfl
theorem Rb.x2 {w v : World} (h : Rb w v) : v.cell? ⟨w.heap.size, 2, none⟩ = some (.slice none 0 0) := by rw [cell_of_row _ _ _ _ _ _ h.row]; rfl
theorem Rb.xf {w v : World} (h : Rb w v) : ∀ o, v.frozen? ⟨w.heap.size, o, none⟩ = false := fun o => frozen_of_row _ _ _ _ _ h.row
theorem Rb.alloc {w v : World} (h : Rb w v) (o : Obj) : Rb w (v.alloc o) := ⟨(Below.heap_alloc v o _ (lt_of_get h.row)).trans h.row, h.bel.alloc h.bel.size o⟩
theorem Rb.call {w v v' : World} (h : Rb w v) (hb : Below v.heap.size v v') : Rb w v' := ⟨Below.row hb h.row, h.bel.trans (hb.mono h.bel.size)⟩
theorem Rb.new (w : World) : Rb w (w.alloc (.cells #[.bool false, .slice none 0 0, .slice none 0 0] 45)) := ⟨heap_alloc_new _ _, (Below.refl _ _).alloc (Nat.le_refl _) _⟩
set_option maxHeartbeats 1000000 in
theorem decode_any (a : Option Addr) (n c : Nat) (b : List Int) (w : World) (h : Ag w a n c b) (hn : n ≤ 140737488351232) : Calls Try.prog 27 #[.slice a n c] w (DecPost w (decP b)) := by
  have hcal := fun w' (hb : Below w.heap.size w w') => first_any a n c b w' (h.at hb) hn
  have HCAL := Hid.mk hcal
  have hl := h.l
  obtain ⟨res, hres⟩ : ∃ r, decP b = r := ⟨_, rfl⟩
  rw [hres]
  unfold decP at hres
  have HRES := Hid.mk hres
  have HL := Hid.mk hl
  clear hcal h hres hl
  go_enter Try.func27, Try.ntmps27
  go_wp2_with fail
  refine (HCAL.out _ ((Below.refl _ _).alloc (Nat.le_refl _) _)).mono ?_
  rintro e w1 ⟨hb, hm⟩
  have RB := (Rb.new w).call hb
  clear hb
  have hres := HRES.out
  cases hrd : rd 8 b with
  | bad er =>
    rw [hrd] at hm hres
    obtain ⟨rfl, her⟩ := hm
    subst hres
    have hee : ((er : Int) != 0) = true := by rw [bne_iff_ne]; omega
    clear hrd
    go_upto_if 14 with fail
    refine gen_w (p := fun v => Code.wp _ _ _ _ v) (q := fun v => Rb w v ∧ v.heap[w1.heap.size]? = some (.cells #[.bool false, .slice none 0 0, .slice none 0 0] 45)) ⟨RB.alloc _, heap_alloc_new _ _⟩ ?_
    clear RB
    rintro v ⟨RV, hyv⟩
    have x0 := RV.x0
    have x1 := RV.x1
    have x2 := RV.x2
    have xf := RV.xf
    have u0 : v.cell? ⟨w1.heap.size, 0, none⟩ = some (#[.bool false, .slice none 0 0, .slice none 0 0][0]) := by rw [cell_of_row _ _ _ _ _ _ hyv]; rfl
    have u1 : v.cell? ⟨w1.heap.size, 1, none⟩ = some (#[.bool false, .slice none 0 0, .slice none 0 0][1]) := by rw [cell_of_row _ _ _ _ _ _ hyv]; rfl
    have u2 : v.cell? ⟨w1.heap.size, 2, none⟩ = some (#[.bool false, .slice none 0 0, .slice none 0 0][2]) := by rw [cell_of_row _ _ _ _ _ _ hyv]; rfl
    have HRV := Hid.mk RV
    clear RV hyv
    go_wp2_with fail
    have hr := put3 HRV.out.row (.bool false) (.slice none 0 0) (.slice none 0 0)
    refine bodyPost_ret (results_row2 Try.results27 _ _ w.heap.size _ _ _ rfl hr) rfl ?_
    exact ⟨below3 HRV.out.bel (Nat.le_refl _) _ _ _, rfl, her⟩
  | ok t m =>
    rw [hrd] at hm hres
    simp only [HL.out] at hres
    obtain ⟨y, rfl, hy⟩ := hm
    have HY : Hid (∀ o, LiesP (fun b => w.heap.size + 1 ≤ b) (w1.alloc o) t y) := fun o => liesP_mono (fun b hb hlt => ⟨Below.heap_alloc _ _ _ hlt, by have : (w.alloc (.cells #[.bool false, .slice none 0 0, .slice none 0 0] 45)).heap.size ≤ b := hb; simpa using this⟩) t y hy
    clear hy
    by_cases hmn : m < n
    · rw [if_pos hmn] at hres
      subst hres
      have hmi : (m : Int) < n := by omega
      clear hrd
      go_upto_if 14 with fail
      refine gen_w (p := fun v => Code.wp _ _ _ _ v) (q := fun v => Rb w v ∧ v.heap[w1.heap.size]? = some (.cells #[.bool y.l, .slice y.ba y.bn y.bc, .slice y.ia y.m y.ic] 45) ∧ Hid (LiesP (fun b => w.heap.size + 1 ≤ b) v t y)) ⟨RB.alloc _, heap_alloc_new _ _, HY.out _⟩ ?_
      clear RB HY
      rintro v ⟨RV, hyv, HY⟩
      have x0 := RV.x0
      have x1 := RV.x1
      have x2 := RV.x2
      have xf := RV.xf
      have u0 : v.cell? ⟨w1.heap.size, 0, none⟩ = some (#[.bool y.l, .slice y.ba y.bn y.bc, .slice y.ia y.m y.ic][0]) := by rw [cell_of_row _ _ _ _ _ _ hyv]; rfl
      have u1 : v.cell? ⟨w1.heap.size, 1, none⟩ = some (#[.bool y.l, .slice y.ba y.bn y.bc, .slice y.ia y.m y.ic][1]) := by rw [cell_of_row _ _ _ _ _ _ hyv]; rfl
      have u2 : v.cell? ⟨w1.heap.size, 2, none⟩ = some (#[.bool y.l, .slice y.ba y.bn y.bc, .slice y.ia y.m y.ic][2]) := by rw [cell_of_row _ _ _ _ _ _ hyv]; rfl
      have HRV := Hid.mk RV
      clear RV hyv
      go_wp2_with fail
      have hr := put3 HRV.out.row (.bool false) (.slice none 0 0) (.slice none 0 0)
      refine bodyPost_ret (results_row2 Try.results27 _ _ w.heap.size _ _ _ rfl hr) rfl ?_
      exact ⟨below3 HRV.out.bel (Nat.le_refl _) _ _ _, rfl, by decide⟩
    · rw [if_neg hmn] at hres
      subst hres
      have hmi : ¬ (m : Int) < n := by omega
      clear hrd
      go_upto_if 14 with fail
      refine gen_w (p := fun v => Code.wp _ _ _ _ v) (q := fun v => Rb w v ∧ v.heap[w1.heap.size]? = some (.cells #[.bool y.l, .slice y.ba y.bn y.bc, .slice y.ia y.m y.ic] 45) ∧ Hid (LiesP (fun b => w.heap.size + 1 ≤ b) v t y)) ⟨RB.alloc _, heap_alloc_new _ _, HY.out _⟩ ?_
      clear RB HY
      rintro v ⟨RV, hyv, HY⟩
      have x0 := RV.x0
      have x1 := RV.x1
      have x2 := RV.x2
      have xf := RV.xf
      have u0 : v.cell? ⟨w1.heap.size, 0, none⟩ = some (#[.bool y.l, .slice y.ba y.bn y.bc, .slice y.ia y.m y.ic][0]) := by rw [cell_of_row _ _ _ _ _ _ hyv]; rfl
      have u1 : v.cell? ⟨w1.heap.size, 1, none⟩ = some (#[.bool y.l, .slice y.ba y.bn y.bc, .slice y.ia y.m y.ic][1]) := by rw [cell_of_row _ _ _ _ _ _ hyv]; rfl
      have u2 : v.cell? ⟨w1.heap.size, 2, none⟩ = some (#[.bool y.l, .slice y.ba y.bn y.bc, .slice y.ia y.m y.ic][2]) := by rw [cell_of_row _ _ _ _ _ _ hyv]; rfl
      have HRV := Hid.mk RV
      clear RV hyv
      go_wp2_with fail
      have hr := put3 HRV.out.row (.bool y.l) (.slice y.ba y.bn y.bc) (.slice y.ia y.m y.ic)
      refine bodyPost_ret (results_row2 Try.results27 _ _ w.heap.size _ _ _ rfl hr) rfl ?_
      refine ⟨below3 HRV.out.bel (Nat.le_refl _) _ _ _, y, rfl, liesP_mono (fun b (hb : w.heap.size + 1 ≤ b) hlt => ⟨other3 (by omega) _ _ _, by omega⟩) t y HY.out⟩
end Go.Proofs.Ytmofehloiiopfaa

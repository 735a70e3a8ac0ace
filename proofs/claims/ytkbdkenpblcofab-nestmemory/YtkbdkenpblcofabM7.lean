/- What the survey's body, measure and Right answer, of every item. -/
import Derived.Test.YtkbdkenpblcofabM5
import Derived.Test.YtkbdkenpblcofabM6
namespace Go.Proofs.Ytkbdkenpblcofab
open Go.RowKit
set_option linter.unusedVariables false
theorem body_any : ∀ t, ∀ (x : V) (d W g : Nat) (w0 w : World), Lies w0 t x → Below w0.heap.size w0 w → w0.heap.size ≤ g → w.heap[g]? = some (.cells #[.int .i64 W] 48) → W ≤ 16777215 → d ≤ 8 →
    Calls Try.prog 21 #[.pointer (some ⟨g, 0, none⟩), .agg #[.bool x.l, .slice x.ba x.bn x.bc, .slice x.ia x.m x.ic], .int .i64 d] w (BodyPost t d W g w) := by
  refine T.ind fun l bs its ih x d W g w0 w hli hbel hg hcell hW hd => ?_
  by_cases h1 : (l = true ∧ d = 8) ∨ wrongForm l bs its = true ∨ 16777215 < W + wt l bs d
  · exact body_bad l bs its x d W g w0 w hli hbel hg hcell hW hd h1
  · have h2 : ¬ (l = true ∧ d = 8) := fun h => h1 (.inl h)
    have h3 : wrongForm l bs its = false := by
      cases h : wrongForm l bs its with
      | false => rfl
      | true => exact absurd (.inr (.inl h)) h1
    have h4 : W + wt l bs d ≤ 16777215 := Nat.le_of_not_lt fun h => h1 (.inr (.inr h))
    cases l with
    | false => exact body_text bs its x d W g w0 w hli hbel hg hcell hW hd h2 h3 h4
    | true => exact body_list bs its x d W g w0 w hli hbel hg hcell hW hd h2 h3 h4 ih
theorem szb_bound {t : T} {d w : Nat} (hw : w ≤ 16777215) (h : (wk t d w).2 = 0) : szb t < 1000000000 := by
  obtain ⟨l, bs, its⟩ := t
  obtain ⟨_, h2, h3, h4⟩ := wk_ok h
  rw [h4] at h
  obtain ⟨b1, b2, b3⟩ := wks_bound (its := its) (d := d + 1) (w := w + wt l bs d) (W := (wks its (d + 1) (w + wt l bs d)).1) (by omega) h3 (by rw [← h])
  show bs.length + szs its < _
  have hf := wrong_false h2
  cases l with
  | true =>
    have : bs = [] := by simpa using hf
    subst this
    simp
    omega
  | false =>
    have : bs.length ≤ wt false bs d := by simp [wt]; omega
    omega
/-- What measure tells. -/
def mP (t : T) : Nat × Nat := if (wk t 0 0).2 ≠ 0 then (0, (wk t 0 0).2) else if 16777215 < szb t then (0, 20) else (sz t, 0)
set_option maxHeartbeats 1000000 in
theorem measure_any (t : T) (x : V) (w : World) (hli : Lies w t x) :
    Calls Try.prog 17 #[.agg #[.bool x.l, .slice x.ba x.bn x.bc, .slice x.ia x.m x.ic]] w fun e w' => e = .returned (.tuple #[.int .i64 ((mP t).1 : Nat), .int .i64 ((mP t).2 : Nat)]) ∧ Below w.heap.size w w' := by
  have HLI := Hid.mk hli
  obtain ⟨m1, hm1⟩ : ∃ m1, mP t = m1 := ⟨_, rfl⟩
  rw [hm1]
  have HM := Hid.mk hm1
  clear hli hm1
  go_enter Try.func17, Try.ntmps17
  go_wp2_with fail
  have hcal := body_any t x 0 0 (w.heap.size + 1) w ((w.alloc (.cells #[.bool x.l, .slice x.ba x.bn x.bc, .slice x.ia x.m x.ic] 25)).alloc (.cells #[.int .i64 0] 48)) HLI.out (((Below.refl _ _).alloc (Nat.le_refl _) _).alloc (by simp) _) (by omega)
    (by have := heap_alloc_new (w.alloc (.cells #[.bool x.l, .slice x.ba x.bn x.bc, .slice x.ia x.m x.ic] 25)) (.cells #[.int .i64 0] 48); rw [show (w.alloc (.cells #[.bool x.l, .slice x.ba x.bn x.bc, .slice x.ia x.m x.ic] 25)).heap.size = w.heap.size + 1 from by simp] at this; exact this) (by omega) (by omega)
  rw [show ((0 : Nat) : Int) = 0 from rfl] at hcal
  refine hcal.mono ?_
  clear hcal
  rintro e w1 ⟨ht1, hres⟩
  have hsz : ((w.alloc (.cells #[.bool x.l, .slice x.ba x.bn x.bc, .slice x.ia x.m x.ic] 25)).alloc (.cells #[.int .i64 0] 48)).heap.size = w.heap.size + 1 + 1 := by simp
  have hyb : w1.heap[w.heap.size]? = some (.cells #[.bool x.l, .slice x.ba x.bn x.bc, .slice x.ia x.m x.ic] 25) := (ht1.block _ (by rw [hsz]; omega) (by omega)).trans ((Below.heap_alloc _ _ _ (by simp)).trans (heap_alloc_new _ _))
  have hb0 : Below w.heap.size w ((w.alloc (.cells #[.bool x.l, .slice x.ba x.bn x.bc, .slice x.ia x.m x.ic] 25)).alloc (.cells #[.int .i64 0] 48)) := ((Below.refl _ _).alloc (Nat.le_refl _) _).alloc (by simp) _
  have hb1 : Below w.heap.size w w1 := Touch.below hb0 ht1 (by omega) (by rw [hsz]; omega)
  clear ht1 hsz hb0
  obtain ⟨ul, ub, ui⟩ := t
  have hyl : Hid (x.l = ul) := (lies_eq.1 HLI.out).1
  have AG := Hid.mk ((lies_eq.1 HLI.out).2.1.at hb1)
  have HMM := HM.out
  unfold mP at HMM
  rcases hres with ⟨hr0, rfl, hr2⟩ | ⟨hr0, rfl⟩
  · have y0 : w1.cell? ⟨w.heap.size, 0, none⟩ = some (.bool x.l) := by rw [cell_of_row _ _ _ _ _ _ hyb]; rfl
    have y1 : w1.cell? ⟨w.heap.size, 1, none⟩ = some (.slice x.ba x.bn x.bc) := by rw [cell_of_row _ _ _ _ _ _ hyb]; rfl
    have y2 : w1.cell? ⟨w.heap.size, 2, none⟩ = some (.slice x.ia x.m x.ic) := by rw [cell_of_row _ _ _ _ _ _ hyb]; rfl
    rw [if_neg (by rw [hr0]; simp)] at HMM
    have hnn := szb_bound (Nat.zero_le _) hr0
    rw [sz_szb] at HMM
    obtain ⟨nn, hnn0⟩ : ∃ nn, szb (T.mk ul ub ui) = nn := ⟨_, rfl⟩
    rw [hnn0] at hnn HMM ⊢
    have HB1 := Hid.mk hb1
    clear hr0 hr2 hyb hnn0 hb1
    by_cases hlong : 16777215 < nn
    · rw [if_pos hlong] at HMM
      have hl2 : (16777215 : Int) < nn := by omega
      have HM2 := Hid.mk HMM
      clear HMM HM
      go_wp2_with fail
      go_ret2
      refine ⟨?_, HB1.out⟩
      rw [← HM2.out]
      rfl
    · rw [if_neg hlong] at HMM
      have hl2 : ¬ (16777215 : Int) < nn := by omega
      have HM2 := Hid.mk HMM
      clear HMM HM
      go_wp2_with fail
      refine (sizeOf_any x.l x.ba x.bn x.bc x.ia x.m x.ic ub nn _ AG.out hnn).mono ?_
      rintro e w2 ⟨rfl, hb2⟩
      rw [hyl.out]
      go_wp2_with fail
      go_ret2
      refine ⟨?_, HB1.out.trans (hb2.mono HB1.out.size)⟩
      rw [← HM2.out]
      rfl
  · rw [if_pos hr0] at HMM
    obtain ⟨er, her⟩ : ∃ er, (wk (T.mk ul ub ui) 0 0).2 = er := ⟨_, rfl⟩
    have hee : ((er : Int) != 0) = true := by rw [bne_iff_ne]; rw [her] at hr0; omega
    rw [her] at HMM ⊢
    have HM2 := Hid.mk HMM
    have HB1 := Hid.mk hb1
    clear hr0 hyb her HMM HM hb1
    go_wp2_with fail
    go_ret2
    refine ⟨?_, HB1.out⟩
    rw [← HM2.out]
    rfl
end Go.Proofs.Ytkbdkenpblcofab

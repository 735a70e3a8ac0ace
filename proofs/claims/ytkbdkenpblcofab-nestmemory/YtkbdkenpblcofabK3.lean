/- What spoil leaves. -/
import Derived.Test.YtkbdkenpblcofabK1
namespace Go.Proofs.Ytkbdkenpblcofab
open Go.RowKit
set_option linter.unusedVariables false
def SpoilSaid (d : Nat) : Prop := ∀ (P : Nat → Prop) (t : T) (y : V) (w : World), dep t ≤ d → LiesP P w t y →
  Calls Try.prog 16 #[.agg #[.bool y.l, .slice y.ba y.bn y.bc, .slice y.ia y.m y.ic]] w fun e w' => e = .returned (.tuple #[]) ∧ Sf P w w'
set_option maxHeartbeats 2000000 in
theorem spoil_step (d : Nat) (ih : SpoilSaid d) : SpoilSaid (d + 1) := by
  intro P t y w hd hli
  have HQ : Hid (Sq P w y (d + 1) (w.alloc (.cells #[.bool y.l, .slice y.ba y.bn y.bc, .slice y.ia y.m y.ic] 25))) := Hid.mk ⟨Sf.new (below_new w _), b1_new w y, t, hd, liesP_mono (fun b hp hb => ⟨Below.heap_alloc _ _ _ hb, hp⟩) t y hli⟩
  have HIH := Hid.mk ih
  clear hd hli ih t
  obtain ⟨yl, ba, bn, bc, ia, m, ic⟩ := y
  simp only at HQ
  obtain ⟨q0, q1, q2⟩ := HQ.out.box
  simp only at q0 q1 q2
  go_enter Try.func16, Try.ntmps16
  go_wp2_with fail
  obtain ⟨W, hW⟩ : ∃ W, w.alloc (.cells #[.bool yl, .slice ba bn bc, .slice ia m ic] 25) = W := ⟨_, rfl⟩
  rw [hW] at HQ ⊢
  clear hW q0 q1 q2
  go_loopw [8] (fun i v => ∃ j : Nat, j ≤ bn ∧ i = .int .i64 j ∧ Sq P w ⟨yl, ba, bn, bc, ia, m, ic⟩ (d + 1) v) (fun i _ => bn - (intOf i).toNat)
  case atStart => exact ⟨0, by omega, rfl, HQ.out⟩
  case round =>
    clear HQ
    obtain ⟨j, hj, rfl, hq⟩ := hrel
    have HQ := Hid.mk hq
    clear hq
    obtain ⟨q0, q1, q2⟩ := HQ.out.box
    simp only at q0 q1 q2
    by_cases hlt : j < bn
    · have hji : (j : Int) < bn := by omega
      obtain ⟨⟨tl, tb, ti⟩, htd, hli⟩ := HQ.out.li
      obtain ⟨⟨i1, hag, i2, i3, i4, i5, h8⟩, i6⟩ := liesP_eq.1 hli
      clear i1 i2 i3 i4 i5 i6
      simp only at hag h8
      obtain ⟨g, off, rfl, e1, e2, hc⟩ := ag_head hag (by omega)
      have hcell := hc j hlt
      obtain ⟨hp, hfz0⟩ := h8 g off rfl (by omega)
      have hfz := hfz0 (off + j)
      have hzb : 0 ≤ tb.getD j 0 ∧ tb.getD j 0 < 256 := hag.b _ (by rw [List.getD, List.getElem?_eq_getElem (by rw [hag.l]; exact hlt)]; exact List.getElem_mem _)
      obtain ⟨z, hz⟩ : ∃ z, tb.getD j 0 = z := ⟨_, rfl⟩
      rw [hz] at hcell hzb
      obtain ⟨hz0, hz1⟩ := hzb
      unfold maxLen at e2
      have HN := Hid.mk (fun z' (h : 0 ≤ z' ∧ z' < 256) => HQ.out.go (Sf.write (z := z') hcell h hp))
      clear hc hz hp hfz0 hag h8 hli htd HQ
      go_wp2_with fail
      exact ⟨⟨j + 1, by omega, by simp, HN.out _ (by omega)⟩, by simp [intOf]; omega⟩
    · have hji : ¬ (j : Int) < bn := by omega
      go_wp2_with fail
      clear q0 q1 q2 hji hlt
      go_loopw [22] (fun i v => ∃ k : Nat, k ≤ m ∧ i = .int .i64 k ∧ Sq P w ⟨yl, ba, bn, bc, ia, m, ic⟩ (d + 1) v) (fun i _ => m - (intOf i).toNat)
      case atStart => exact ⟨0, by omega, rfl, HQ.out⟩
      case round =>
        clear HQ
        obtain ⟨k, hk, rfl, hq⟩ := hrel
        have HQ := Hid.mk hq
        clear hq
        by_cases hlt2 : k < m
        · have hki : (k : Int) < m := by omega
          obtain ⟨⟨tl, tb, ti⟩, htd, hli⟩ := HQ.out.li
          obtain ⟨⟨i1, i2, hm, hmc, hcm, i3, i4⟩, hall⟩ := liesP_eq.1 hli
          clear i1 i2 i3 i4
          simp only at hm hmc hcm hall
          unfold maxLen at hcm
          obtain ⟨u, hu⟩ : ∃ u, ti[k]? = some u := ⟨ti[k]'(by omega), List.getElem?_eq_getElem _⟩
          obtain ⟨g, off, y, A, hly⟩ := liesPAll_at hall k u hu
          rw [Nat.zero_add] at A
          have ha : ia = some ⟨g, off, none⟩ := A.ha
          subst ha
          rw [dep_eq] at htd
          have hud := dep_mem (List.mem_of_getElem? hu)
          have hcal := HIH.out P u y (wr.alloc (.cells #[.bool y.l, .slice y.ba y.bn y.bc, .slice y.ia y.m y.ic] 25)) (by omega) (liesP_mono (fun b hp hb => ⟨Below.heap_alloc _ _ _ hb, hp⟩) u y hly)
          have HC := Hid.mk hcal
          have c0 := A.c0
          have c1 := A.c1
          have c2 := A.c2
          clear hcal A hly hu hud hall hli htd hm
          go_wp2_with fail
          refine HC.out.mono ?_
          rintro e w1 ⟨rfl, hs1⟩
          have HN := Hid.mk (HQ.out.go ((Sf.new (below_new wr _)).trans hs1))
          clear hs1 HQ HC c0 c1 c2
          go_wp2_with fail
          exact ⟨⟨k + 1, by omega, by simp, HN.out⟩, by simp [intOf]; omega⟩
        · have hki : ¬ (k : Int) < m := by omega
          go_wp2_with fail
          go_end0
          exact ⟨rfl, HQ.out.sf⟩
theorem spoil_zero : SpoilSaid 0 := by
  intro P t y w hd hli
  obtain ⟨l, bs, its⟩ := t
  rw [dep_eq] at hd
  omega
theorem spoil_any : ∀ d, SpoilSaid d
  | 0 => spoil_zero
  | d + 1 => spoil_step d (spoil_any d)
end Go.Proofs.Ytkbdkenpblcofab

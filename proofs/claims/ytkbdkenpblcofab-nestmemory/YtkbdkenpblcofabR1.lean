/- What lengthIn answers. -/
import Derived.Test.YtkbdkenpblcofabP2
import Derived.Test.YtkbdkenpblcofabM3
namespace Go.Proofs.Ytkbdkenpblcofab
open Go.RowKit
set_option linter.unusedVariables false
set_option maxHeartbeats 1000000 in
theorem lengthIn_any (a : Option Addr) (n c k : Nat) (b : List Int) (w : World) (h : Ag w a n c b) (hk : 1 ≤ k) (hk8 : k ≤ 8) (hn : n ≤ 4611686018427387904) :
    Calls Try.prog 29 #[.slice a n c, .int .i64 k] w fun e w' => e = .returned (.tuple #[.int .i64 ((lenIn b k).1 : Nat), .int .i64 ((lenIn b k).2 : Nat)]) ∧ Below w.heap.size w w' := by
  have hl := h.l
  obtain ⟨r, hr⟩ : ∃ r, lenIn b k = r := ⟨_, rfl⟩
  rw [hr]
  unfold lenIn at hr
  by_cases h3 : 3 < k
  · rw [if_pos h3] at hr
    subst hr
    have h3i : (3 : Int) < k := by omega
    clear h
    go_enter Try.func29, Try.ntmps29
    go_wp2_with fail
    go_ret2
    exact ⟨rfl, Below.refl _ _⟩
  rw [if_neg h3] at hr
  have h3i : ¬ (3 : Int) < k := by omega
  by_cases h4 : b.length < k
  · rw [if_pos h4] at hr
    subst hr
    have h4i : (n : Int) < k := by omega
    clear h
    go_enter Try.func29, Try.ntmps29
    go_wp2_with fail
    go_ret2
    exact ⟨rfl, Below.refl _ _⟩
  rw [if_neg h4] at hr
  have h4i : ¬ (n : Int) < k := by omega
  obtain ⟨g, off, rfl, hc1, hc2, hc⟩ := ag_head h (by omega)
  unfold maxLen at hc2
  have HR := Hid.mk hr
  have HC := Hid.mk hc
  have HB := Hid.mk h.b
  have HL := Hid.mk hl
  have hc0 := hc 0 (by omega)
  rw [Nat.add_zero] at hc0
  have hkc : k ≤ c := by omega
  clear h hr hc hl h4
  go_enter Try.func29, Try.ntmps29
  go_wp2_with fail
  go_loopw [6, 19] (fun q i v => ∃ j : Nat, j ≤ k ∧ i = .int .i64 j ∧ q = .int .i64 (val (b.take j) : Nat) ∧ v = w) (fun _ i _ => k - (intOf i).toNat)
  case atStart => exact ⟨0, by omega, rfl, rfl, rfl⟩
  case round =>
    obtain ⟨j, hj, rfl, rfl, rfl⟩ := hrel
    by_cases hlt : j < k
    · have hcell := HC.out j (by omega)
      have hb2 := HB.out
      have hl := HL.out
      obtain ⟨v1, v2⟩ := val_take hb2 (j := j) (by omega) (by omega)
      have v3 := val_take hb2 (j := j + 1) (by omega) (by omega)
      have hx := hb2 (b.getD j 0) (by rw [List.getD, List.getElem?_eq_getElem (by omega)]; exact List.getElem_mem _)
      have hvs := val_succ (b := b) (j := j) (by omega)
      obtain ⟨q, hq⟩ : ∃ q, val (b.take j) = q := ⟨_, rfl⟩
      obtain ⟨x, hxx⟩ : ∃ x, b.getD j 0 = x := ⟨_, rfl⟩
      rw [hq] at v1 hvs ⊢
      rw [hxx] at hcell hx hvs
      obtain ⟨hx0, hx1⟩ := hx
      rw [hvs] at v3
      have hq2 : q < 65536 := by omega
      have HV := Hid.mk hvs
      have hji : (j : Int) < k := by omega
      have hor : bits BinOp.or IntKind.i64 ((q : Int) * 256) x = (q : Int) * 256 + x := by
        refine bits_join .i64 40 (by decide) (fun n a b => by rw [IntKind.wrap_i64]; omega) 8 _ _ (by omega) (by omega) (by omega) hx0 (by omega) (by omega)
      clear hvs hb2 hl v1 v2 v3 hq hxx
      go_wp2_with fail
      refine ⟨⟨j + 1, by omega, by simp, ?_, trivial⟩, ?_⟩
      · rw [HV.out]
        simp
        omega
      · simp [intOf]; omega
    · have hjk : j = k := by omega
      subst hjk
      have hji : ¬ (j : Int) < j := by omega
      obtain ⟨v1, v2⟩ := val_take HB.out (j := j) (by have := HL.out; omega) (by omega)
      have hh : b.headD 0 = b.getD 0 0 := by cases b <;> rfl
      have hr := HR.out
      rw [hh] at hr
      have hx := HB.out (b.getD 0 0) (by rw [List.getD, List.getElem?_eq_getElem (by have := HL.out; omega)]; exact List.getElem_mem _)
      obtain ⟨q, hq⟩ : ∃ q, val (b.take j) = q := ⟨_, rfl⟩
      obtain ⟨x, hxx⟩ : ∃ x, b.getD 0 0 = x := ⟨_, rfl⟩
      rw [hq] at v1 hr ⊢
      rw [hxx] at hc0 hr hx
      clear hq hxx hh
      by_cases hx0 : x = 0
      · subst hx0
        rw [if_pos (.inl rfl)] at hr
        subst hr
        clear hx
        go_wp2_with fail
        go_ret2
        exact ⟨rfl, Below.refl _ _⟩
      · have hxb : (x == 0) = false := by simp [hx0]
        by_cases hq5 : q ≤ 55
        · rw [if_pos (.inr hq5)] at hr
          subst hr
          have hqi : (q : Int) ≤ 55 := by omega
          go_wp2_with fail
          go_ret2
          exact ⟨rfl, Below.refl _ _⟩
        · rw [if_neg (by intro h; rcases h with h | h; exact hx0 h; exact hq5 h)] at hr
          subst hr
          have hqi : ¬ (q : Int) ≤ 55 := by omega
          go_wp2_with fail
          go_ret2
          exact ⟨rfl, Below.refl _ _⟩
end Go.Proofs.Ytkbdkenpblcofab

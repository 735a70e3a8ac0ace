/- What bodyAt answers. -/
import Derived.Test.YtchgejomcgoaeaaGreatG04
set_option linter.unusedVariables false
namespace Go.Proofs.YtchgejomcgoaeaaGreat
open Go.RowKit
variable {w w' : World} {n c k : Nat} {P : Nat → Prop} {a : Option Addr}
def HR.f : HR → Nat | .bad _ => 0 | .ok f _ => f
def HR.t : HR → Nat | .bad _ => 0 | .ok _ t => t
def HR.e : HR → Nat | .bad e => e | .ok _ _ => 0
theorem Zrb {g off : Nat} {b : List Int} (h : Ag w (some ⟨g, off, none⟩) n c b) (hk : k ≤ n) : Ag w (if c = k then some ⟨g, off, none⟩ else some ⟨g, off + k, none⟩) (n - k) (c - k) (b.drop k) := by
  have hl := h.l
  refine ⟨?_, ?_, by rw [List.length_drop, hl], fun x hx => h.b x (List.mem_of_mem_drop hx)⟩
  · by_cases h0 : n - k = 0
    · exact .inl ⟨h0, List.drop_of_length_le (by omega)⟩
    · rcases h.i with ⟨h1, _⟩ | ⟨g', off', h1, h2, h3, h4, h5, h6⟩
      · omega
      · cases h1
        refine .inr ⟨g, off + k, if_neg (by omega), by rw [List.length_drop, hl], by omega, by omega, by omega, fun j hj => ?_⟩
        rw [List.length_drop] at hj
        have := h6 (k + j) (by omega)
        rw [Nat.add_assoc, this]
        simp [List.getD]
  · intro hh
    split at hh <;> cases hh
set_option maxHeartbeats 1000000 in
theorem Zhl (g off n c d k : Nat) (x : Int) (r : List Int) (w : World) (hcell : w.cell? ⟨g, off, none⟩ = some (.int .u8 x)) (hx0 : 0 ≤ x) (hx1 : x < 256) (hbig : 192 ≤ x) (hd8 : ((d : Int) == 8) = false) (h128 : ¬ x < 128) (hc1 : n ≤ c) (hc2 : c ≤ 2 ^ 63 - 1) (hn : n ≤ 4611686018427387904)
    (hl : r.length + 1 = n) (hdr : Ag w (if c = 1 then some ⟨g, off, none⟩ else some ⟨g, off + 1, none⟩) (n - 1) (c - 1) r) (h5 : 55 < x - 192) (hk : x - 192 - 55 = (k : Int)) (R : HR)
    (hR : (if (lenIn r k).2 ≠ 0 then HR.bad (lenIn r k).2 else if r.length + 1 - (1 + k) < (lenIn r k).1 then HR.bad 22 else HR.ok (1 + k) (1 + k + (lenIn r k).1)) = R) :
    Calls Tryz.prog 122 #[.slice (some ⟨g, off, none⟩) n c, .int .i64 d] w fun e w' => e = .returned (.tuple #[.int .i64 (R.f : Nat), .int .i64 (R.t : Nat), .int .i64 (R.e : Nat)]) ∧ Below w.heap.size w w' := by
  have hn0 : ((n : Int) == 0) = false := by simp; omega
  have hn1 : 0 < n := by omega
  have hn2 : (0 : Int) < n := by omega
  have hk1 : 1 ≤ k := by omega
  have hk8 : k ≤ 8 := by omega
  have hL1 := @Zev r k
  have hcal := Zfo _ (n - 1) (c - 1) k r w hdr hk1 hk8 (by omega)
  obtain ⟨L, hL⟩ : ∃ L, lenIn r k = L := ⟨_, rfl⟩
  obtain ⟨L1, L2⟩ := L
  rw [hL] at hR hL1 hcal
  simp only at hR hL1 hcal
  have hvb : L2 = 0 → L1 < 16777216 := fun h0 => by
    obtain ⟨a1, a2, _, _, a3⟩ := hL1 h0
    rw [a3]
    obtain ⟨v1, v2⟩ := Zda hdr.b a2 a1
    omega
  have hkn : L2 = 0 → 1 + k ≤ n := fun h0 => by have := (hL1 h0).2.1; omega
  have HV := Hid.mk hvb
  have HKN := Hid.mk hkn
  have HCAL := Hid.mk hcal
  have HRR := Hid.mk hR
  have HK := Hid.mk hk
  have HL := Hid.mk hl
  have h5' : (55 : Int) < x - 192 := h5
  clear hL1 hL hvb hkn hcal hR hk hl hdr h5
  by_cases hc1' : c = 1
  · subst hc1'
    have hn3 : n = 1 := by omega
    subst hn3
    simp only [if_true, Nat.sub_self] at HCAL
    go_enter Tryz.func122, Tryz.ntmps122
    go_wp2_with fail
    rw [HK.out]
    refine HCAL.out.mono ?_
    rintro e w1 ⟨rfl, hb⟩
    have h0 : L2 ≠ 0 := fun h => by have := HKN.out h; omega
    · have hr := HRR.out
      rw [if_pos h0] at hr
      have hee : ((L2 : Int) != 0) = true := by rw [bne_iff_ne]; omega
      subst hr
      clear h0
      go_wp2_with fail
      go_ret3
      exact ⟨rfl, hb⟩
  · rw [if_neg hc1'] at HCAL
    go_enter Tryz.func122, Tryz.ntmps122
    go_wp2_with fail
    rw [HK.out]
    refine HCAL.out.mono ?_
    rintro e w1 ⟨rfl, hb⟩
    by_cases h0 : L2 = 0
    · have hv := HV.out h0
      have hkn := HKN.out h0
      have hr := HRR.out
      rw [if_neg (by rw [h0]; simp)] at hr
      have hl := HL.out
      subst h0
      rw [show ((0 : Nat) : Int) = 0 from rfl]
      by_cases h6 : r.length + 1 - (1 + k) < L1
      · rw [if_pos h6] at hr
        have h7 : (n : Int) - (1 + k) < L1 := by omega
        subst hr
        clear hl h6
        go_wp2_with fail
        go_ret3
        exact ⟨rfl, hb⟩
      · rw [if_neg h6] at hr
        have h7 : ¬ (n : Int) - (1 + k) < L1 := by omega
        subst hr
        clear hl h6
        go_wp2_with fail
        go_ret3
        exact ⟨by simp [HR.f, HR.t, HR.e], hb⟩
    · have hr := HRR.out
      rw [if_pos h0] at hr
      have hee : ((L2 : Int) != 0) = true := by rw [bne_iff_ne]; omega
      subst hr
      clear h0
      go_wp2_with fail
      go_ret3
      exact ⟨rfl, hb⟩
set_option maxHeartbeats 1000000 in
theorem Zhm (g off n c d k : Nat) (x : Int) (r : List Int) (w : World) (hcell : w.cell? ⟨g, off, none⟩ = some (.int .u8 x)) (hx0 : 0 ≤ x) (hx1 : x < 256) (hbig : ¬ 192 ≤ x) (h128 : ¬ x < 128) (hc1 : n ≤ c) (hc2 : c ≤ 2 ^ 63 - 1) (hn : n ≤ 4611686018427387904)
    (hl : r.length + 1 = n) (hdr : Ag w (if c = 1 then some ⟨g, off, none⟩ else some ⟨g, off + 1, none⟩) (n - 1) (c - 1) r) (h5 : 55 < x - 128) (hk : x - 128 - 55 = (k : Int)) (R : HR)
    (hR : (if (lenIn r k).2 ≠ 0 then HR.bad (lenIn r k).2 else if r.length + 1 - (1 + k) < (lenIn r k).1 then HR.bad 22 else HR.ok (1 + k) (1 + k + (lenIn r k).1)) = R) :
    Calls Tryz.prog 122 #[.slice (some ⟨g, off, none⟩) n c, .int .i64 d] w fun e w' => e = .returned (.tuple #[.int .i64 (R.f : Nat), .int .i64 (R.t : Nat), .int .i64 (R.e : Nat)]) ∧ Below w.heap.size w w' := by
  have hn0 : ((n : Int) == 0) = false := by simp; omega
  have hn1 : 0 < n := by omega
  have hn2 : (0 : Int) < n := by omega
  have hk1 : 1 ≤ k := by omega
  have hk8 : k ≤ 8 := by omega
  have hL1 := @Zev r k
  have hcal := Zfo _ (n - 1) (c - 1) k r w hdr hk1 hk8 (by omega)
  obtain ⟨L, hL⟩ : ∃ L, lenIn r k = L := ⟨_, rfl⟩
  obtain ⟨L1, L2⟩ := L
  rw [hL] at hR hL1 hcal
  simp only at hR hL1 hcal
  have hvb : L2 = 0 → L1 < 16777216 := fun h0 => by
    obtain ⟨a1, a2, _, _, a3⟩ := hL1 h0
    rw [a3]
    obtain ⟨v1, v2⟩ := Zda hdr.b a2 a1
    omega
  have hkn : L2 = 0 → 1 + k ≤ n := fun h0 => by have := (hL1 h0).2.1; omega
  have HV := Hid.mk hvb
  have HKN := Hid.mk hkn
  have HCAL := Hid.mk hcal
  have HRR := Hid.mk hR
  have HK := Hid.mk hk
  have HL := Hid.mk hl
  have h5' : (55 : Int) < x - 128 := h5
  clear hL1 hL hvb hkn hcal hR hk hl hdr h5
  by_cases hc1' : c = 1
  · subst hc1'
    have hn3 : n = 1 := by omega
    subst hn3
    simp only [if_true, Nat.sub_self] at HCAL
    go_enter Tryz.func122, Tryz.ntmps122
    go_wp2_with fail
    rw [HK.out]
    refine HCAL.out.mono ?_
    rintro e w1 ⟨rfl, hb⟩
    have h0 : L2 ≠ 0 := fun h => by have := HKN.out h; omega
    · have hr := HRR.out
      rw [if_pos h0] at hr
      have hee : ((L2 : Int) != 0) = true := by rw [bne_iff_ne]; omega
      subst hr
      clear h0
      go_wp2_with fail
      go_ret3
      exact ⟨rfl, hb⟩
  · rw [if_neg hc1'] at HCAL
    go_enter Tryz.func122, Tryz.ntmps122
    go_wp2_with fail
    rw [HK.out]
    refine HCAL.out.mono ?_
    rintro e w1 ⟨rfl, hb⟩
    by_cases h0 : L2 = 0
    · have hv := HV.out h0
      have hkn := HKN.out h0
      have hr := HRR.out
      rw [if_neg (by rw [h0]; simp)] at hr
      have hl := HL.out
      subst h0
      rw [show ((0 : Nat) : Int) = 0 from rfl]
      by_cases h6 : r.length + 1 - (1 + k) < L1
      · rw [if_pos h6] at hr
        have h7 : (n : Int) - (1 + k) < L1 := by omega
        subst hr
        clear hl h6
        go_wp2_with fail
        go_ret3
        exact ⟨rfl, hb⟩
      · rw [if_neg h6] at hr
        have h7 : ¬ (n : Int) - (1 + k) < L1 := by omega
        subst hr
        clear hl h6
        go_wp2_with fail
        go_ret3
        exact ⟨by simp [HR.f, HR.t, HR.e], hb⟩
    · have hr := HRR.out
      rw [if_pos h0] at hr
      have hee : ((L2 : Int) != 0) = true := by rw [bne_iff_ne]; omega
      subst hr
      clear h0
      go_wp2_with fail
      go_ret3
      exact ⟨rfl, hb⟩
set_option maxHeartbeats 2000000 in
theorem Zfg (a : Option Addr) (n c d : Nat) (b : List Int) (w : World) (h : Ag w a n c b) (hd : d ≤ 8) (hn : n ≤ 4611686018427387904) :
    Calls Tryz.prog 122 #[.slice a n c, .int .i64 d] w fun e w' => e = .returned (.tuple #[.int .i64 ((hdr (decide (d = 8)) b).f : Nat), .int .i64 ((hdr (decide (d = 8)) b).t : Nat), .int .i64 ((hdr (decide (d = 8)) b).e : Nat)]) ∧ Below w.heap.size w w' := by
  have hl := h.l
  cases b with
  | nil =>
    simp at hl
    subst hl
    clear h
    go_enter Tryz.func122, Tryz.ntmps122
    go_wp2_with fail
    go_ret3
    exact ⟨rfl, Below.refl _ _⟩
  | cons x r =>
    simp only [List.length_cons] at hl
    obtain ⟨g, off, rfl, hc1, hc2, hc⟩ := ag_head h (by omega)
    unfold maxLen at hc2
    have hcell := hc 0 (by omega)
    simp only [Nat.add_zero, List.getD_cons_zero] at hcell
    obtain ⟨hx0, hx1⟩ := h.b x (by simp)
    have hn0 : ((n : Int) == 0) = false := by simp; omega
    have hn1 : 0 < n := by omega
    have hn2 : (0 : Int) < n := by omega
    have hdrop := Zrb h (k := 1) (by omega)
    simp only [List.drop_succ_cons, List.drop_zero] at hdrop
    obtain ⟨R, hR⟩ : ∃ R, hdr (decide (d = 8)) (x :: r) = R := ⟨_, rfl⟩
    rw [hR]
    simp only [hdr, List.length_cons] at hR
    have HDR := Hid.mk hdrop
    have HL := Hid.mk hl
    clear h hc hdrop
    by_cases h1 : 192 ≤ x ∧ d = 8
    · obtain ⟨h1, rfl⟩ := h1
      rw [if_pos ⟨h1, by simp⟩] at hR
      subst hR
      clear hl
      go_enter Tryz.func122, Tryz.ntmps122
      go_wp2_with fail
      go_ret3
      exact ⟨rfl, Below.refl _ _⟩
    rw [if_neg (by simpa using h1)] at hR
    by_cases h2 : x < 128
    · rw [if_pos h2] at hR
      subst hR
      have h3 : ¬ 192 ≤ x := by omega
      clear hl h1
      go_enter Tryz.func122, Tryz.ntmps122
      go_wp2_with fail
      go_ret3
      exact ⟨rfl, Below.refl _ _⟩
    rw [if_neg h2] at hR
    by_cases hbig : 192 ≤ x
    · have hd8 : ((d : Int) == 8) = false := by simp; simp [hbig] at h1; omega
      have hnof : nOf x = (x - 192).toNat := by unfold nOf; rw [if_pos hbig]
      rw [hnof] at hR
      by_cases h5 : 55 < (x - 192).toNat
      · obtain ⟨k, hk⟩ : ∃ k : Nat, x - 192 - 55 = (k : Int) := ⟨(x - 192 - 55).toNat, by omega⟩
        rw [if_pos h5, show (x - 192).toNat - 55 = k from by omega] at hR
        exact Zhl g off n c d k x r w hcell hx0 hx1 hbig hd8 h2 hc1 hc2 hn hl HDR.out (by omega) hk R hR
      · obtain ⟨m, hm⟩ : ∃ m : Nat, x - 192 = (m : Int) := ⟨(x - 192).toNat, by omega⟩
        rw [if_neg h5, show (x - 192).toNat = m from by omega] at hR
        have hm6 : ¬ (55 : Int) < x - 192 := by omega
        have HM := Hid.mk hm
        by_cases h6 : r.length + 1 - 1 < m
        · rw [if_pos h6] at hR
          subst hR
          have h7 : (n : Int) - 1 < x - 192 := by omega
          clear hnof h5 hl h1 hm h6
          go_enter Tryz.func122, Tryz.ntmps122
          go_wp2_with fail
          go_ret3
          exact ⟨rfl, Below.refl _ _⟩
        · rw [if_neg h6] at hR
          subst hR
          have h7 : ¬ (n : Int) - 1 < x - 192 := by omega
          clear hnof h5 hl h1 hm h6
          go_enter Tryz.func122, Tryz.ntmps122
          go_wp2_with fail
          go_ret3
          exact ⟨by simp [HR.f, HR.t, HR.e, HM.out], Below.refl _ _⟩
    · have hd9 : 128 ≤ x := by omega
      have hnof : nOf x = (x - 128).toNat := by unfold nOf; rw [if_neg hbig]
      rw [hnof] at hR
      by_cases h5 : 55 < (x - 128).toNat
      · obtain ⟨k, hk⟩ : ∃ k : Nat, x - 128 - 55 = (k : Int) := ⟨(x - 128 - 55).toNat, by omega⟩
        rw [if_pos h5, show (x - 128).toNat - 55 = k from by omega] at hR
        exact Zhm g off n c d k x r w hcell hx0 hx1 hbig h2 hc1 hc2 hn hl HDR.out (by omega) hk R hR
      · obtain ⟨m, hm⟩ : ∃ m : Nat, x - 128 = (m : Int) := ⟨(x - 128).toNat, by omega⟩
        rw [if_neg h5, show (x - 128).toNat = m from by omega] at hR
        have hm6 : ¬ (55 : Int) < x - 128 := by omega
        have HM := Hid.mk hm
        by_cases h6 : r.length + 1 - 1 < m
        · rw [if_pos h6] at hR
          subst hR
          have h7 : (n : Int) - 1 < x - 128 := by omega
          clear hnof h5 hl h1 hm h6
          go_enter Tryz.func122, Tryz.ntmps122
          go_wp2_with fail
          go_ret3
          exact ⟨rfl, Below.refl _ _⟩
        · rw [if_neg h6] at hR
          subst hR
          have h7 : ¬ (n : Int) - 1 < x - 128 := by omega
          clear hnof h5 hl h1 hm h6
          go_enter Tryz.func122, Tryz.ntmps122
          go_wp2_with fail
          go_ret3
          exact ⟨by simp [HR.f, HR.t, HR.e, HM.out], Below.refl _ _⟩
mutual
def LiesP (P : Nat → Prop) (w : World) : T → V → Prop
  | .mk l bs its, x => (x.l = l ∧ Ag w x.ba x.bn x.bc bs ∧ x.m = its.length ∧ x.m ≤ x.ic ∧ x.ic ≤ maxLen ∧ (x.bn ≤ 140737488351232 ∧ x.m ≤ 140737488351232) ∧ (∀ g off, x.ba = some ⟨g, off, none⟩ → 0 < x.bn → P g ∧ ∀ o, w.frozen? ⟨g, o, none⟩ = false)) ∧ LiesPAll P w its x.ia 0
def LiesPAll (P : Nat → Prop) (w : World) : List T → Option Addr → Nat → Prop
  | [], _, _ => True
  | t :: r, a, k => (∃ g off y, (a = some ⟨g, off, none⟩ ∧ P g) ∧ w.cell? ⟨g, off + k * 3, none⟩ = some (.bool y.l) ∧ w.cell? ⟨g, off + k * 3 + 1, none⟩ = some (.slice y.ba y.bn y.bc) ∧ w.cell? ⟨g, off + k * 3 + 2, none⟩ = some (.slice y.ia y.m y.ic) ∧ LiesP P w t y) ∧ LiesPAll P w r a (k + 1)
end
theorem liesP_eq {l : Bool} {bs : List Int} {its : List T} {x : V} : LiesP P w (.mk l bs its) x ↔ ((x.l = l ∧ Ag w x.ba x.bn x.bc bs ∧ x.m = its.length ∧ x.m ≤ x.ic ∧ x.ic ≤ maxLen ∧ (x.bn ≤ 140737488351232 ∧ x.m ≤ 140737488351232) ∧ (∀ g off, x.ba = some ⟨g, off, none⟩ → 0 < x.bn → P g ∧ ∀ o, w.frozen? ⟨g, o, none⟩ = false)) ∧ LiesPAll P w its x.ia 0) := by rw [LiesP]
theorem liesPAll_cons {t : T} {r : List T} : LiesPAll P w (t :: r) a k ↔ ((∃ g off y, (a = some ⟨g, off, none⟩ ∧ P g) ∧ w.cell? ⟨g, off + k * 3, none⟩ = some (.bool y.l) ∧ w.cell? ⟨g, off + k * 3 + 1, none⟩ = some (.slice y.ba y.bn y.bc) ∧ w.cell? ⟨g, off + k * 3 + 2, none⟩ = some (.slice y.ia y.m y.ic) ∧ LiesP P w t y) ∧ LiesPAll P w r a (k + 1)) := by rw [LiesPAll]
theorem Zbs : LiesPAll P w [] a k := by rw [LiesPAll]; trivial
theorem Zde {P : Nat → Prop} {w : World} {a : Option Addr} : ∀ {its : List T} {k : Nat}, (∀ t ∈ its, ∀ x, LiesP P w t x → Lies w t x) → LiesPAll P w its a k → LiesAll w its a k
  | [], _, _, _ => Zcs
  | t :: r, k, ih, h => by
    obtain ⟨⟨g, off, y, ⟨h1, _⟩, h2, h3, h4, h5⟩, hr⟩ := liesPAll_cons.1 h
    exact liesAll_cons.2 ⟨⟨g, off, y, h1, h2, h3, h4, ih t (List.mem_cons_self ..) y h5⟩, Zde (fun u hu => ih u (List.mem_cons_of_mem _ hu)) hr⟩
theorem Zcn : ∀ t, ∀ x, LiesP P w t x → Lies w t x := by
  refine T.ind fun l bs its ih x h => ?_
  obtain ⟨⟨h1, h2, h3, h4, h5, h6, _⟩, h7⟩ := liesP_eq.1 h
  exact lies_eq.2 ⟨h1, h2, h3, h4, h5, h6, Zde ih h7⟩
theorem Zra {bs : List Int} (h : Ag w a n c bs) (hk : ∀ g off, a = some ⟨g, off, none⟩ → 0 < n → g < w.heap.size → w'.heap[g]? = w.heap[g]?) : Ag w' a n c bs := by
  refine ⟨?_, h.nil, h.l, h.b⟩
  rcases h.i with h0 | ⟨g, off, h1, h2, h3, h4, h5, h6⟩
  · exact .inl h0
  · refine .inr ⟨g, off, h1, h2, h3, h4, h5, fun j hj => ?_⟩
    have := h6 j hj
    exact (World.cell?_of_block (w := w) (hk g off h1 h3 (block_lt_of_cell this))).trans this
theorem Zb6 {P Q : Nat → Prop} {w w' : World} {a : Option Addr} (hk : ∀ b, P b → b < w.heap.size → w'.heap[b]? = w.heap[b]? ∧ Q b) : ∀ {its : List T} {k : Nat}, (∀ t ∈ its, ∀ x, LiesP P w t x → LiesP Q w' t x) → LiesPAll P w its a k → LiesPAll Q w' its a k
  | [], _, _, _ => Zbs
  | t :: r, k, ih, h => by
    obtain ⟨⟨g, off, y, ⟨h1, hp⟩, h2, h3, h4, h5⟩, hr⟩ := liesPAll_cons.1 h
    have hb := hk g hp (block_lt_of_cell h2)
    refine liesPAll_cons.2 ⟨⟨g, off, y, ⟨h1, hb.2⟩, ?_, ?_, ?_, ih t (List.mem_cons_self ..) y h5⟩, Zb6 hk (fun u hu => ih u (List.mem_cons_of_mem _ hu)) hr⟩
    · exact (World.cell?_of_block (w := w) hb.1).trans h2
    · exact (World.cell?_of_block (w := w) hb.1).trans h3
    · exact (World.cell?_of_block (w := w) hb.1).trans h4
theorem Zax {Q : Nat → Prop} (hk : ∀ b, P b → b < w.heap.size → w'.heap[b]? = w.heap[b]? ∧ Q b) : ∀ t, ∀ x, LiesP P w t x → LiesP Q w' t x := by
  refine T.ind fun l bs its ih x h => ?_
  obtain ⟨⟨h1, h2, h3, h4, h5, h6, h8⟩, h7⟩ := liesP_eq.1 h
  refine liesP_eq.2 ⟨⟨h1, Zra h2 (fun g off e1 e2 e3 => (hk g (h8 g off e1 e2).1 e3).1), h3, h4, h5, h6, fun g off e1 e2 => ?_⟩, Zb6 hk ih h7⟩
  obtain ⟨g', off', e3, _, _, hc⟩ := ag_head h2 e2
  rw [e1] at e3
  cases e3
  have hkk := hk g (h8 g off e1 e2).1 (block_lt_of_cell (hc 0 e2))
  exact ⟨hkk.2, fun o => (World.frozen?_of_block (w := w) hkk.1).trans ((h8 g off e1 e2).2 o)⟩
def V.cells (y : V) : List Value := [.bool y.l, .slice y.ba y.bn y.bc, .slice y.ia y.m y.ic]
def OwnI (w : World) (base : Nat) (v : Value) (ys : List V) : Prop := w.ownsRow base 76 3 v ys.length (ys.flatMap V.cells)
theorem Zd5 (ys : List V) : (ys.flatMap V.cells).length = ys.length * 3 := by
  induction ys with
  | nil => rfl
  | cons y r ih => rw [List.flatMap_cons, List.length_append, ih]; simp [V.cells]; omega
theorem Zx8 : ∃ i, Tryz.prog.info? 76 = some i ∧ i.zero = some (.agg #[.bool false, .slice none 0 0, .slice none 0 0]) ∧ i.size = 3 ∧ i.bytes = 56 := by
  have h : (Tryz.prog.info? 76).map (fun i => (i.zero, i.size, i.bytes)) = some (some (.agg #[.bool false, .slice none 0 0, .slice none 0 0]), 3, 56) := by kernel_rfl
  cases hq : Tryz.prog.info? 76 with
  | none => rw [hq] at h; simp at h
  | some i => rw [hq] at h; simp at h; exact ⟨i, rfl, h.1, h.2.1, h.2.2⟩
theorem Zg7 (y : V) : ∀ u ∈ V.cells y, u.oneCell' = true := by
  intro u hu
  simp [V.cells] at hu
  rcases hu with rfl | rfl | rfl <;> rfl
theorem Zm0 {base : Nat} {v : Value} {ys : List V} (hown : OwnI w base v ys) (y : V) (ad : Addr) (c : Nat) (hnews : ∀ j u, (V.cells y)[j]? = some u → w.cell? (ad.add j) = some u) (hbase : base ≤ w.heap.size) (hlen : ys.length ≤ 1000000000) (ty : TypeId) :
    ∃ v' w', (Builtin.append_ #[74, 74] ty #[v, .slice (some ad) 1 c]).run Tryz.prog w = .ok v' w' ∧ OwnI w' base v' (ys ++ [y]) ∧ w.grownBy w' v.ownBlock ∧ (v'.ownBlock = v.ownBlock ∨ v'.ownBlock = some w.heap.size) := by
  obtain ⟨i, hi, hz, hsz, hby⟩ := Zx8
  obtain ⟨v', w', hrun, hown', hgr, _⟩ := run_append_own (P := Tryz.prog) w base 74 ty 76 i _ 3 56 Tryz.underlying74 hi hz hsz hby rfl (by decide) v ys.length (ys.flatMap V.cells) hown ad 1 c (V.cells y) rfl hnews (Zg7 y) (by unfold maxLen; omega) (by omega) hbase
  refine ⟨v', w', hrun, ?_, hgr, ?_⟩
  · unfold OwnI
    rw [List.flatMap_append, List.length_append]
    simpa using hown'
  · rcases hown.2 with ⟨rfl, hn0⟩ | ⟨g, cap, cur, rfl, hbg, hg, hnc, hcm, hcs, htake⟩
    · have hr := run_append_nil (P := Tryz.prog) w 74 ty 76 i _ Tryz.underlying74 hi hz ad 1 c (V.cells y) (by rw [hsz]; rfl) hnews (by decide) (by decide) (by rw [hby]; decide)
      rw [hrun] at hr
      injection hr with e1 e2
      right
      rw [e1]
      rfl
    · by_cases hroom : ys.length + 1 ≤ cap
      · have hr := run_append_room (P := Tryz.prog) w 74 ty 76 i Tryz.underlying74 hi g ys.length cap cur hg ad 1 c (V.cells y) (by rw [hsz]; rfl) hnews (Zg7 y) hroom (by rw [hcs, hsz]; simp [V.cells]; omega)
        rw [hrun] at hr
        injection hr with e1 e2
        left
        rw [e1]
        rfl
      · have hr := run_append_grow (P := Tryz.prog) w 74 ty 76 i _ Tryz.underlying74 hi hz ⟨g, 0, none⟩ ys.length cap (ys.flatMap V.cells) (by rw [hsz, Zd5]) (World.ownsRow.cells hown (g := g) rfl) ad 1 c (V.cells y) (by rw [hsz]; rfl) hnews (by omega) (by omega) (growslice_fits (by omega) (by rw [hby]; omega))
        rw [hrun] at hr
        injection hr with e1 e2
        right
        rw [e1]
        rfl
end Go.Proofs.YtchgejomcgoaeaaGreat

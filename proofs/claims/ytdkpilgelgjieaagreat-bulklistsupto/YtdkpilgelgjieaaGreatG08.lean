/- What bodyAt answers. -/
import Derived.Test.YtdkpilgelgjieaaGreatG07
set_option linter.unusedVariables false
set_option maxRecDepth 100000
namespace Go.Proofs.YtdkpilgelgjieaaGreat
open Go.RowKit
def HR.f : HR -> Nat | .bad _ => 0 | .ok f _ => f
def HR.t : HR -> Nat | .bad _ => 0 | .ok _ t => t
def HR.e : HR -> Nat | .bad e => e | .ok _ _ => 0
theorem ag_drop {w : World} {g off n c : Nat} {b : List Int} (h : Ag w (some ⟨g, off, none⟩) n c b) {k : Nat} (hk : k <= n) : Ag w (if c = k then some ⟨g, off, none⟩ else some ⟨g, off + k, none⟩) (n - k) (c - k) (b.drop k) := by
 have hl := h.l
 refine ⟨?_, ?_, by rw [List.length_drop, hl], fun x hx => h.b x (List.mem_of_mem_drop hx)⟩
 ·by_cases h0 : n - k = 0
  ·exact .inl ⟨h0, List.drop_of_length_le (by omega)⟩
  ·rcases h.i with ⟨h1, _⟩ | ⟨g', off', h1, h2, h3, h4, h5, h6⟩
   ·omega
   ·cases h1
    refine .inr ⟨g, off + k, if_neg (by omega), by rw [List.length_drop, hl], by omega, by omega, by omega, fun j hj => ?_⟩
    rw [List.length_drop] at hj
    have := h6 (k + j) (by omega)
    rw [Nat.add_assoc, this]
    simp [List.getD]
 ·intro hh
  split at hh <;> cases hh
set_option maxHeartbeats 1000000 in
theorem Zje (g off n c d k : Nat) (x : Int) (r : List Int) (w : World) (hcell : w.cell? ⟨g, off, none⟩ = some (.int .u8 x)) (hx0 : 0 <= x) (hx1 : x < 256) (hbig : 192 <= x) (hd8 : ((d : Int) == 8) = false) (h128 : ¬ x < 128) (hc1 : n <= c) (hc2 : c <= 2 ^ 63 - 1) (hn : n <= 4611686018427387904)
  (hl : r.length + 1 = n) (hdr : Ag w (if c = 1 then some ⟨g, off, none⟩ else some ⟨g, off + 1, none⟩) (n - 1) (c - 1) r) (h5 : 55 < x - 192) (hk : x - 192 - 55 = (k : Int)) (R : HR)
  (hR : (if (lenIn r k).2 ≠ 0 then HR.bad (lenIn r k).2 else if r.length + 1 - (1 + k) < (lenIn r k).1 then HR.bad 22 else HR.ok (1 + k) (1 + k + (lenIn r k).1)) = R) :
  Calls Tryz.prog 126 #[.slice (some ⟨g, off, none⟩) n c, .int .i64 d] w fun e w' => e = .returned (.tuple #[.int .i64 (R.f : Nat), .int .i64 (R.t : Nat), .int .i64 (R.e : Nat)]) /\ Below w.heap.size w w' := by
 have hn0 : ((n : Int) == 0) = false := by simp; omega
 have hn1 : 0 < n := by omega
 have hn2 : (0 : Int) < n := by omega
 have hk1 : 1 <= k := by omega
 have hk8 : k <= 8 := by omega
 have hL1 := @Zfw r k
 have hcal := Zgv _ (n - 1) (c - 1) k r w hdr hk1 hk8 (by omega)
 obtain ⟨L, hL⟩ : ∃ L, lenIn r k = L := ⟨_, rfl⟩
 obtain ⟨L1, L2⟩ := L
 rw [hL] at hR hL1 hcal
 simp only at hR hL1 hcal
 have hvb : L2 = 0 -> L1 < 16777216 := fun h0 => by
  obtain ⟨a1, a2, _, _, a3⟩ := hL1 h0
  rw [a3]
  obtain ⟨v1, v2⟩ := Zby hdr.b a2 a1
  omega
 have hkn : L2 = 0 -> 1 + k <= n := fun h0 => by have := (hL1 h0).2.1; omega
 have HV := Hid.mk hvb
 have HKN := Hid.mk hkn
 have HCAL := Hid.mk hcal
 have HRR := Hid.mk hR
 have HK := Hid.mk hk
 have HL := Hid.mk hl
 have h5' : (55 : Int) < x - 192 := h5
 clear hL1 hL hvb hkn hcal hR hk hl hdr h5
 by_cases hc1' : c = 1
 ·subst hc1'
  have hn3 : n = 1 := by omega
  subst hn3
  simp only [if_true, Nat.sub_self] at HCAL
  go_enter Tryz.func126, Tryz.ntmps126
  go_wp2_with fail
  rw [HK.out]
  refine HCAL.out.mono ?_
  rintro e w1 ⟨rfl, hb⟩
  have h0 : L2 ≠ 0 := fun h => by have := HKN.out h; omega
  ·have hr := HRR.out
   rw [if_pos h0] at hr
   have hee : ((L2 : Int) != 0) = true := by rw [bne_iff_ne]; omega
   subst hr
   clear h0
   go_wp2_with fail
   go_ret3
   exact ⟨rfl, hb⟩
 ·rw [if_neg hc1'] at HCAL
  go_enter Tryz.func126, Tryz.ntmps126
  go_wp2_with fail
  rw [HK.out]
  refine HCAL.out.mono ?_
  rintro e w1 ⟨rfl, hb⟩
  by_cases h0 : L2 = 0
  ·have hv := HV.out h0
   have hkn := HKN.out h0
   have hr := HRR.out
   rw [if_neg (by rw [h0]; simp)] at hr
   have hl := HL.out
   subst h0
   rw [show ((0 : Nat) : Int) = 0 from rfl]
   by_cases h6 : r.length + 1 - (1 + k) < L1
   ·rw [if_pos h6] at hr
    have h7 : (n : Int) - (1 + k) < L1 := by omega
    subst hr
    clear hl h6
    go_wp2_with fail
    go_ret3
    exact ⟨rfl, hb⟩
   ·rw [if_neg h6] at hr
    have h7 : ¬ (n : Int) - (1 + k) < L1 := by omega
    subst hr
    clear hl h6
    go_wp2_with fail
    go_ret3
    exact ⟨by simp [HR.f, HR.t, HR.e], hb⟩
  ·have hr := HRR.out
   rw [if_pos h0] at hr
   have hee : ((L2 : Int) != 0) = true := by rw [bne_iff_ne]; omega
   subst hr
   clear h0
   go_wp2_with fail
   go_ret3
   exact ⟨rfl, hb⟩
set_option maxHeartbeats 1000000 in
theorem Zjf (g off n c d k : Nat) (x : Int) (r : List Int) (w : World) (hcell : w.cell? ⟨g, off, none⟩ = some (.int .u8 x)) (hx0 : 0 <= x) (hx1 : x < 256) (hbig : ¬ 192 <= x) (h128 : ¬ x < 128) (hc1 : n <= c) (hc2 : c <= 2 ^ 63 - 1) (hn : n <= 4611686018427387904)
  (hl : r.length + 1 = n) (hdr : Ag w (if c = 1 then some ⟨g, off, none⟩ else some ⟨g, off + 1, none⟩) (n - 1) (c - 1) r) (h5 : 55 < x - 128) (hk : x - 128 - 55 = (k : Int)) (R : HR)
  (hR : (if (lenIn r k).2 ≠ 0 then HR.bad (lenIn r k).2 else if r.length + 1 - (1 + k) < (lenIn r k).1 then HR.bad 22 else HR.ok (1 + k) (1 + k + (lenIn r k).1)) = R) :
  Calls Tryz.prog 126 #[.slice (some ⟨g, off, none⟩) n c, .int .i64 d] w fun e w' => e = .returned (.tuple #[.int .i64 (R.f : Nat), .int .i64 (R.t : Nat), .int .i64 (R.e : Nat)]) /\ Below w.heap.size w w' := by
 have hn0 : ((n : Int) == 0) = false := by simp; omega
 have hn1 : 0 < n := by omega
 have hn2 : (0 : Int) < n := by omega
 have hk1 : 1 <= k := by omega
 have hk8 : k <= 8 := by omega
 have hL1 := @Zfw r k
 have hcal := Zgv _ (n - 1) (c - 1) k r w hdr hk1 hk8 (by omega)
 obtain ⟨L, hL⟩ : ∃ L, lenIn r k = L := ⟨_, rfl⟩
 obtain ⟨L1, L2⟩ := L
 rw [hL] at hR hL1 hcal
 simp only at hR hL1 hcal
 have hvb : L2 = 0 -> L1 < 16777216 := fun h0 => by
  obtain ⟨a1, a2, _, _, a3⟩ := hL1 h0
  rw [a3]
  obtain ⟨v1, v2⟩ := Zby hdr.b a2 a1
  omega
 have hkn : L2 = 0 -> 1 + k <= n := fun h0 => by have := (hL1 h0).2.1; omega
 have HV := Hid.mk hvb
 have HKN := Hid.mk hkn
 have HCAL := Hid.mk hcal
 have HRR := Hid.mk hR
 have HK := Hid.mk hk
 have HL := Hid.mk hl
 have h5' : (55 : Int) < x - 128 := h5
 clear hL1 hL hvb hkn hcal hR hk hl hdr h5
 by_cases hc1' : c = 1
 ·subst hc1'
  have hn3 : n = 1 := by omega
  subst hn3
  simp only [if_true, Nat.sub_self] at HCAL
  go_enter Tryz.func126, Tryz.ntmps126
  go_wp2_with fail
  rw [HK.out]
  refine HCAL.out.mono ?_
  rintro e w1 ⟨rfl, hb⟩
  have h0 : L2 ≠ 0 := fun h => by have := HKN.out h; omega
  ·have hr := HRR.out
   rw [if_pos h0] at hr
   have hee : ((L2 : Int) != 0) = true := by rw [bne_iff_ne]; omega
   subst hr
   clear h0
   go_wp2_with fail
   go_ret3
   exact ⟨rfl, hb⟩
 ·rw [if_neg hc1'] at HCAL
  go_enter Tryz.func126, Tryz.ntmps126
  go_wp2_with fail
  rw [HK.out]
  refine HCAL.out.mono ?_
  rintro e w1 ⟨rfl, hb⟩
  by_cases h0 : L2 = 0
  ·have hv := HV.out h0
   have hkn := HKN.out h0
   have hr := HRR.out
   rw [if_neg (by rw [h0]; simp)] at hr
   have hl := HL.out
   subst h0
   rw [show ((0 : Nat) : Int) = 0 from rfl]
   by_cases h6 : r.length + 1 - (1 + k) < L1
   ·rw [if_pos h6] at hr
    have h7 : (n : Int) - (1 + k) < L1 := by omega
    subst hr
    clear hl h6
    go_wp2_with fail
    go_ret3
    exact ⟨rfl, hb⟩
   ·rw [if_neg h6] at hr
    have h7 : ¬ (n : Int) - (1 + k) < L1 := by omega
    subst hr
    clear hl h6
    go_wp2_with fail
    go_ret3
    exact ⟨by simp [HR.f, HR.t, HR.e], hb⟩
  ·have hr := HRR.out
   rw [if_pos h0] at hr
   have hee : ((L2 : Int) != 0) = true := by rw [bne_iff_ne]; omega
   subst hr
   clear h0
   go_wp2_with fail
   go_ret3
   exact ⟨rfl, hb⟩
set_option maxHeartbeats 2000000 in
theorem Zgl (a : Option Addr) (n c d : Nat) (b : List Int) (w : World) (h : Ag w a n c b) (hd : d <= 8) (hn : n <= 4611686018427387904) :
  Calls Tryz.prog 126 #[.slice a n c, .int .i64 d] w fun e w' => e = .returned (.tuple #[.int .i64 ((hdr (decide (d = 8)) b).f : Nat), .int .i64 ((hdr (decide (d = 8)) b).t : Nat), .int .i64 ((hdr (decide (d = 8)) b).e : Nat)]) /\ Below w.heap.size w w' := by
 have hl := h.l
 cases b with
 | nil =>
  simp at hl
  subst hl
  clear h
  go_enter Tryz.func126, Tryz.ntmps126
  go_wp2_with fail
  go_ret3
  exact ⟨rfl, Below.refl _ _⟩
 | cons x r =>
  simp only [List.length_cons] at hl
  obtain ⟨g, off, rfl, hc1, hc2, hc⟩ := ag_head h (by omega)
  unfold maxLen at hc2
  have hcell := hc 0 (by omega)
  simp only [Nat.add_zero, List.getD_cons_zero] at hcell
  obtain ⟨hx0, hx1⟩ := h.b x (by simp)
  have hn0 : ((n : Int) == 0) = false := by simp; omega
  have hn1 : 0 < n := by omega
  have hn2 : (0 : Int) < n := by omega
  have hdrop := ag_drop h (k := 1) (by omega)
  simp only [List.drop_succ_cons, List.drop_zero] at hdrop
  obtain ⟨R, hR⟩ : ∃ R, hdr (decide (d = 8)) (x :: r) = R := ⟨_, rfl⟩
  rw [hR]
  simp only [hdr, List.length_cons] at hR
  have HDR := Hid.mk hdrop
  have HL := Hid.mk hl
  clear h hc hdrop
  by_cases h1 : 192 <= x /\ d = 8
  ·obtain ⟨h1, rfl⟩ := h1
   rw [if_pos ⟨h1, by simp⟩] at hR
   subst hR
   clear hl
   go_enter Tryz.func126, Tryz.ntmps126
   go_wp2_with fail
   go_ret3
   exact ⟨rfl, Below.refl _ _⟩
  rw [if_neg (by simpa using h1)] at hR
  by_cases h2 : x < 128
  ·rw [if_pos h2] at hR
   subst hR
   have h3 : ¬ 192 <= x := by omega
   clear hl h1
   go_enter Tryz.func126, Tryz.ntmps126
   go_wp2_with fail
   go_ret3
   exact ⟨rfl, Below.refl _ _⟩
  rw [if_neg h2] at hR
  by_cases hbig : 192 <= x
  ·have hd8 : ((d : Int) == 8) = false := by simp; simp [hbig] at h1; omega
   have hnof : nOf x = (x - 192).toNat := by unfold nOf; rw [if_pos hbig]
   rw [hnof] at hR
   by_cases h5 : 55 < (x - 192).toNat
   ·obtain ⟨k, hk⟩ : ∃ k : Nat, x - 192 - 55 = (k : Int) := ⟨(x - 192 - 55).toNat, by omega⟩
    rw [if_pos h5, show (x - 192).toNat - 55 = k from by omega] at hR
    exact Zje g off n c d k x r w hcell hx0 hx1 hbig hd8 h2 hc1 hc2 hn hl HDR.out (by omega) hk R hR
   ·obtain ⟨m, hm⟩ : ∃ m : Nat, x - 192 = (m : Int) := ⟨(x - 192).toNat, by omega⟩
    rw [if_neg h5, show (x - 192).toNat = m from by omega] at hR
    have hm6 : ¬ (55 : Int) < x - 192 := by omega
    have HM := Hid.mk hm
    by_cases h6 : r.length + 1 - 1 < m
    ·rw [if_pos h6] at hR
     subst hR
     have h7 : (n : Int) - 1 < x - 192 := by omega
     clear hnof h5 hl h1 hm h6
     go_enter Tryz.func126, Tryz.ntmps126
     go_wp2_with fail
     go_ret3
     exact ⟨rfl, Below.refl _ _⟩
    ·rw [if_neg h6] at hR
     subst hR
     have h7 : ¬ (n : Int) - 1 < x - 192 := by omega
     clear hnof h5 hl h1 hm h6
     go_enter Tryz.func126, Tryz.ntmps126
     go_wp2_with fail
     go_ret3
     exact ⟨by simp [HR.f, HR.t, HR.e, HM.out], Below.refl _ _⟩
  ·have hd9 : 128 <= x := by omega
   have hnof : nOf x = (x - 128).toNat := by unfold nOf; rw [if_neg hbig]
   rw [hnof] at hR
   by_cases h5 : 55 < (x - 128).toNat
   ·obtain ⟨k, hk⟩ : ∃ k : Nat, x - 128 - 55 = (k : Int) := ⟨(x - 128 - 55).toNat, by omega⟩
    rw [if_pos h5, show (x - 128).toNat - 55 = k from by omega] at hR
    exact Zjf g off n c d k x r w hcell hx0 hx1 hbig h2 hc1 hc2 hn hl HDR.out (by omega) hk R hR
   ·obtain ⟨m, hm⟩ : ∃ m : Nat, x - 128 = (m : Int) := ⟨(x - 128).toNat, by omega⟩
    rw [if_neg h5, show (x - 128).toNat = m from by omega] at hR
    have hm6 : ¬ (55 : Int) < x - 128 := by omega
    have HM := Hid.mk hm
    by_cases h6 : r.length + 1 - 1 < m
    ·rw [if_pos h6] at hR
     subst hR
     have h7 : (n : Int) - 1 < x - 128 := by omega
     clear hnof h5 hl h1 hm h6
     go_enter Tryz.func126, Tryz.ntmps126
     go_wp2_with fail
     go_ret3
     exact ⟨rfl, Below.refl _ _⟩
    ·rw [if_neg h6] at hR
     subst hR
     have h7 : ¬ (n : Int) - 1 < x - 128 := by omega
     clear hnof h5 hl h1 hm h6
     go_enter Tryz.func126, Tryz.ntmps126
     go_wp2_with fail
     go_ret3
     exact ⟨by simp [HR.f, HR.t, HR.e, HM.out], Below.refl _ _⟩
mutual
def LiesP (P : Nat -> Prop) (w : World) : T -> V -> Prop
 | .mk l bs its, x => (x.l = l /\ Ag w x.ba x.bn x.bc bs /\ x.m = its.length /\ x.m <= x.ic /\ x.ic <= maxLen /\ (x.bn <= 140737488351232 /\ x.m <= 140737488351232) /\ (∀ g off, x.ba = some ⟨g, off, none⟩ -> 0 < x.bn -> P g /\ ∀ o, w.frozen? ⟨g, o, none⟩ = false)) /\ LiesPAll P w its x.ia 0
def LiesPAll (P : Nat -> Prop) (w : World) : List T -> Option Addr -> Nat -> Prop
 | [], _, _ => True
 | t :: r, a, k => (∃ g off y, (a = some ⟨g, off, none⟩ /\ P g) /\ w.cell? ⟨g, off + k * 3, none⟩ = some (.bool y.l) /\ w.cell? ⟨g, off + k * 3 + 1, none⟩ = some (.slice y.ba y.bn y.bc) /\ w.cell? ⟨g, off + k * 3 + 2, none⟩ = some (.slice y.ia y.m y.ic) /\ LiesP P w t y) /\ LiesPAll P w r a (k + 1)
end
theorem liesP_eq {P : Nat -> Prop} {w : World} {l : Bool} {bs : List Int} {its : List T} {x : V} : LiesP P w (.mk l bs its) x ↔ ((x.l = l /\ Ag w x.ba x.bn x.bc bs /\ x.m = its.length /\ x.m <= x.ic /\ x.ic <= maxLen /\ (x.bn <= 140737488351232 /\ x.m <= 140737488351232) /\ (∀ g off, x.ba = some ⟨g, off, none⟩ -> 0 < x.bn -> P g /\ ∀ o, w.frozen? ⟨g, o, none⟩ = false)) /\ LiesPAll P w its x.ia 0) := by rw [LiesP]
theorem liesPAll_cons {P : Nat -> Prop} {w : World} {t : T} {r : List T} {a : Option Addr} {k : Nat} : LiesPAll P w (t :: r) a k ↔ ((∃ g off y, (a = some ⟨g, off, none⟩ /\ P g) /\ w.cell? ⟨g, off + k * 3, none⟩ = some (.bool y.l) /\ w.cell? ⟨g, off + k * 3 + 1, none⟩ = some (.slice y.ba y.bn y.bc) /\ w.cell? ⟨g, off + k * 3 + 2, none⟩ = some (.slice y.ia y.m y.ic) /\ LiesP P w t y) /\ LiesPAll P w r a (k + 1)) := by rw [LiesPAll]
theorem Zbk {P : Nat -> Prop} {w : World} {a : Option Addr} {k : Nat} : LiesPAll P w [] a k := by rw [LiesPAll]; trivial
theorem Zd4 {P : Nat -> Prop} {w : World} {a : Option Addr} : ∀ {its : List T} {k : Nat}, (∀ t ∈ its, ∀ x, LiesP P w t x -> Lies w t x) -> LiesPAll P w its a k -> LiesAll w its a k
 | [], _, _, _ => Zbm
 | t :: r, k, ih, h => by
  obtain ⟨⟨g, off, y, ⟨h1, _⟩, h2, h3, h4, h5⟩, hr⟩ := liesPAll_cons.1 h
  exact liesAll_cons.2 ⟨⟨g, off, y, h1, h2, h3, h4, ih t (List.mem_cons_self ..) y h5⟩, Zd4 (fun u hu => ih u (List.mem_cons_of_mem _ hu)) hr⟩
theorem Zbg {P : Nat -> Prop} {w : World} : ∀ t, ∀ x, LiesP P w t x -> Lies w t x := by
 refine T.ind fun l bs its ih x h => ?_
 obtain ⟨⟨h1, h2, h3, h4, h5, h6, _⟩, h7⟩ := liesP_eq.1 h
 exact lies_eq.2 ⟨h1, h2, h3, h4, h5, h6, Zd4 ih h7⟩
theorem Zle {w w' : World} {a : Option Addr} {n c : Nat} {bs : List Int} (h : Ag w a n c bs) (hk : ∀ g off, a = some ⟨g, off, none⟩ -> 0 < n -> g < w.heap.size -> w'.heap[g]? = w.heap[g]?) : Ag w' a n c bs := by
 refine ⟨?_, h.nil, h.l, h.b⟩
 rcases h.i with h0 | ⟨g, off, h1, h2, h3, h4, h5, h6⟩
 ·exact .inl h0
 ·refine .inr ⟨g, off, h1, h2, h3, h4, h5, fun j hj => ?_⟩
  have := h6 j hj
  exact (World.cell?_of_block (w := w) (hk g off h1 h3 (block_lt_of_cell this))).trans this
theorem Zbt {P Q : Nat -> Prop} {w w' : World} {a : Option Addr} (hk : ∀ b, P b -> b < w.heap.size -> w'.heap[b]? = w.heap[b]? /\ Q b) : ∀ {its : List T} {k : Nat}, (∀ t ∈ its, ∀ x, LiesP P w t x -> LiesP Q w' t x) -> LiesPAll P w its a k -> LiesPAll Q w' its a k
 | [], _, _, _ => Zbk
 | t :: r, k, ih, h => by
  obtain ⟨⟨g, off, y, ⟨h1, hp⟩, h2, h3, h4, h5⟩, hr⟩ := liesPAll_cons.1 h
  have hb := hk g hp (block_lt_of_cell h2)
  refine liesPAll_cons.2 ⟨⟨g, off, y, ⟨h1, hb.2⟩, ?_, ?_, ?_, ih t (List.mem_cons_self ..) y h5⟩, Zbt hk (fun u hu => ih u (List.mem_cons_of_mem _ hu)) hr⟩
  ·exact (World.cell?_of_block (w := w) hb.1).trans h2
  ·exact (World.cell?_of_block (w := w) hb.1).trans h3
  ·exact (World.cell?_of_block (w := w) hb.1).trans h4
theorem Zak {P Q : Nat -> Prop} {w w' : World} (hk : ∀ b, P b -> b < w.heap.size -> w'.heap[b]? = w.heap[b]? /\ Q b) : ∀ t, ∀ x, LiesP P w t x -> LiesP Q w' t x := by
 refine T.ind fun l bs its ih x h => ?_
 obtain ⟨⟨h1, h2, h3, h4, h5, h6, h8⟩, h7⟩ := liesP_eq.1 h
 refine liesP_eq.2 ⟨⟨h1, Zle h2 (fun g off e1 e2 e3 => (hk g (h8 g off e1 e2).1 e3).1), h3, h4, h5, h6, fun g off e1 e2 => ?_⟩, Zbt hk ih h7⟩
 obtain ⟨g', off', e3, _, _, hc⟩ := ag_head h2 e2
 rw [e1] at e3
 cases e3
 have hkk := hk g (h8 g off e1 e2).1 (block_lt_of_cell (hc 0 e2))
 exact ⟨hkk.2, fun o => (World.frozen?_of_block (w := w) hkk.1).trans ((h8 g off e1 e2).2 o)⟩
def V.cells (y : V) : List Value := [.bool y.l, .slice y.ba y.bn y.bc, .slice y.ia y.m y.ic]
def OwnI (w : World) (base : Nat) (v : Value) (ys : List V) : Prop := w.ownsRow base 94 3 v ys.length (ys.flatMap V.cells)
theorem Zev (ys : List V) : (ys.flatMap V.cells).length = ys.length * 3 := by
 induction ys with
 | nil => rfl
 | cons y r ih => rw [List.flatMap_cons, List.length_append, ih]; simp [V.cells]; omega
theorem Zzt : ∃ i, Tryz.prog.info? 94 = some i /\ i.zero = some (.agg #[.bool false, .slice none 0 0, .slice none 0 0]) /\ i.size = 3 /\ i.bytes = 56 := by
 have h : (Tryz.prog.info? 94).map (fun i => (i.zero, i.size, i.bytes)) = some (some (.agg #[.bool false, .slice none 0 0, .slice none 0 0]), 3, 56) := by kernel_rfl
 cases hq : Tryz.prog.info? 94 with
 | none => rw [hq] at h; simp at h
 | some i => rw [hq] at h; simp at h; exact ⟨i, rfl, h.1, h.2.1, h.2.2⟩
theorem Zi3 (y : V) : ∀ u ∈ V.cells y, u.oneCell' = true := by
 intro u hu
 simp [V.cells] at hu
 rcases hu with rfl | rfl | rfl <;> rfl
theorem Zhq {w : World} {base : Nat} {v : Value} {ys : List V} (hown : OwnI w base v ys) (y : V) (ad : Addr) (c : Nat) (hnews : ∀ j u, (V.cells y)[j]? = some u -> w.cell? (ad.add j) = some u) (hbase : base <= w.heap.size) (hlen : ys.length <= 1000000000) (ty : TypeId) :
  ∃ v' w', (Builtin.append_ #[92, 92] ty #[v, .slice (some ad) 1 c]).run Tryz.prog w = .ok v' w' /\ OwnI w' base v' (ys ++ [y]) /\ w.grownBy w' v.ownBlock /\ (v'.ownBlock = v.ownBlock \/ v'.ownBlock = some w.heap.size) := by
 obtain ⟨i, hi, hz, hsz, hby⟩ := Zzt
 obtain ⟨v', w', hrun, hown', hgr, _⟩ := run_append_own (P := Tryz.prog) w base 92 ty 94 i _ 3 56 Tryz.underlying92 hi hz hsz hby rfl (by decide) v ys.length (ys.flatMap V.cells) hown ad 1 c (V.cells y) rfl hnews (Zi3 y) (by unfold maxLen; omega) (by omega) hbase
 refine ⟨v', w', hrun, ?_, hgr, ?_⟩
 ·unfold OwnI
  rw [List.flatMap_append, List.length_append]
  simpa using hown'
 ·rcases hown.2 with ⟨rfl, hn0⟩ | ⟨g, cap, cur, rfl, hbg, hg, hnc, hcm, hcs, htake⟩
  ·have hr := run_append_nil (P := Tryz.prog) w 92 ty 94 i _ Tryz.underlying92 hi hz ad 1 c (V.cells y) (by rw [hsz]; rfl) hnews (by decide) (by decide) (by rw [hby]; decide)
   rw [hrun] at hr
   injection hr with e1 e2
   right
   rw [e1]
   rfl
  ·by_cases hroom : ys.length + 1 <= cap
   ·have hr := run_append_room (P := Tryz.prog) w 92 ty 94 i Tryz.underlying92 hi g ys.length cap cur hg ad 1 c (V.cells y) (by rw [hsz]; rfl) hnews (Zi3 y) hroom (by rw [hcs, hsz]; simp [V.cells]; omega)
    rw [hrun] at hr
    injection hr with e1 e2
    left
    rw [e1]
    rfl
   ·have hr := run_append_grow (P := Tryz.prog) w 92 ty 94 i _ Tryz.underlying92 hi hz ⟨g, 0, none⟩ ys.length cap (ys.flatMap V.cells) (by rw [hsz, Zev]) (World.ownsRow.cells hown (g := g) rfl) ad 1 c (V.cells y) (by rw [hsz]; rfl) hnews (by omega) (by omega) (growslice_fits (by omega) (by rw [hby]; omega))
    rw [hrun] at hr
    injection hr with e1 e2
    right
    rw [e1]
    rfl
def AllP (P : Nat -> Prop) (w : World) : List T -> List V -> Prop
 | [], [] => True
 | t :: ts, y :: ys => LiesP P w t y /\ AllP P w ts ys
 | _, _ => False
theorem AllP.len {P : Nat -> Prop} {w : World} : ∀ {ts : List T} {ys : List V}, AllP P w ts ys -> ts.length = ys.length
 | [], [], _ => rfl
 | t :: ts, y :: ys, h => by have := AllP.len h.2; simp [this]
theorem AllP.mono {P Q : Nat -> Prop} {w w' : World} (hk : ∀ b, P b -> b < w.heap.size -> w'.heap[b]? = w.heap[b]? /\ Q b) : ∀ {ts : List T} {ys : List V}, AllP P w ts ys -> AllP Q w' ts ys
 | [], [], _ => trivial
 | t :: ts, y :: ys, h => ⟨Zak hk t y h.1, AllP.mono hk h.2⟩
theorem AllP.snoc {P : Nat -> Prop} {w : World} {t : T} {y : V} (h1 : LiesP P w t y) : ∀ {ts : List T} {ys : List V}, AllP P w ts ys -> AllP P w (ts ++ [t]) (ys ++ [y])
 | [], [], _ => ⟨h1, trivial⟩
 | _ :: ts, _ :: ys, h => ⟨h.1, AllP.snoc h1 h.2⟩
theorem Zdd (pre : List V) (y : V) (ys : List V) (j : Nat) (u : Value) (h : (V.cells y)[j]? = some u) : ((pre ++ y :: ys).flatMap V.cells)[pre.length * 3 + j]? = some u := by
 rw [List.flatMap_append, List.getElem?_append_right (by rw [Zev]; omega), Zev, Nat.add_sub_cancel_left, List.flatMap_cons, List.getElem?_append_left (List.getElem?_eq_some_iff.1 h).1, h]
theorem Zoc {P : Nat -> Prop} {w : World} {g : Nat} {all : List V} (hc : ∀ j u, (all.flatMap V.cells)[j]? = some u -> w.cell? ((⟨g, 0, none⟩ : Addr).add j) = some u) (hP : P g) :
  ∀ (ts : List T) (ys pre : List V), all = pre ++ ys -> AllP P w ts ys -> LiesPAll P w ts (some ⟨g, 0, none⟩) pre.length
 | [], [], pre, _, _ => Zbk
 | t :: ts, y :: ys, pre, e, h => by
  have hr := Zoc hc hP ts ys (pre ++ [y]) (by rw [e]; simp) h.2
  rw [List.length_append] at hr
  refine liesPAll_cons.2 ⟨⟨g, 0, y, ⟨rfl, hP⟩, ?_, ?_, ?_, h.1⟩, hr⟩
  ·have := hc (pre.length * 3 + 0) (.bool y.l) (by rw [e]; exact Zdd pre y ys 0 _ rfl)
   rw [Zax] at this
   simpa using this
  ·have := hc (pre.length * 3 + 1) (.slice y.ba y.bn y.bc) (by rw [e]; exact Zdd pre y ys 1 _ rfl)
   rw [Zax] at this
   rw [show 0 + pre.length * 3 + 1 = 0 + (pre.length * 3 + 1) from by omega]
   exact this
  ·have := hc (pre.length * 3 + 2) (.slice y.ia y.m y.ic) (by rw [e]; exact Zdd pre y ys 2 _ rfl)
   rw [Zax] at this
   rw [show 0 + pre.length * 3 + 2 = 0 + (pre.length * 3 + 2) from by omega]
   exact this
theorem Zkx {P : Nat -> Prop} {w : World} {base : Nat} {v : Value} {ys : List V} {ts : List T} (hown : OwnI w base v ys) (h : AllP P w ts ys) (hP : ∀ g, v.ownBlock = some g -> P g) :
  ∃ ia ic, v = .slice ia ts.length ic /\ ts.length <= ic /\ ic <= maxLen /\ LiesPAll P w ts ia 0 := by
 have hl := h.len
 rcases hown.2 with ⟨rfl, hn0⟩ | ⟨g, cap, cur, rfl, hbg, hg, hnc, hcm, hcs, htake⟩
 ·have : ts = [] := List.eq_nil_of_length_eq_zero (by omega)
  subst this
  exact ⟨none, 0, rfl, Nat.le_refl _, by unfold maxLen; omega, Zbk⟩
 ·exact ⟨some ⟨g, 0, none⟩, cap, by rw [hl], by omega, hcm, Zoc (World.ownsRow.cells hown (g := g) rfl) (hP g rfl) ts ys [] rfl h⟩
theorem Zcd {fn : Func} {p u : Tmp} (h : fn.results = #[.cell p 94, .tmp u]) (tmps : Array Value) (w : World) (g : Nat) (a b c : Value)
  (hp : tmps.getD p undef = .pointer (some ⟨g, 0, none⟩)) (hg : w.heap[g]? = some (.cells #[a, b, c] 94)) :
  (results fn tmps).run Tryz.prog w = .ok (.tuple #[.agg #[a, b, c], tmps.getD u undef]) w := by
 have hp' : tmps[p]?.getD undef = .pointer (some ⟨g, 0, none⟩) := by simpa using hp
 simp [results, h, hp', asAddr, run_loadVar_row (P := Tryz.prog) w g 94 94 #[a, b, c] (0, 0) _ hg Tryz.underlying94 rfl (by kernel_rfl)]
theorem Zag {fn : Func} {p u v : Tmp} (h : fn.results = #[.cell p 94, .tmp u, .tmp v]) (tmps : Array Value) (w : World) (g : Nat) (a b c : Value)
  (hp : tmps.getD p undef = .pointer (some ⟨g, 0, none⟩)) (hg : w.heap[g]? = some (.cells #[a, b, c] 94)) :
  (results fn tmps).run Tryz.prog w = .ok (.tuple #[.agg #[a, b, c], tmps.getD u undef, tmps.getD v undef]) w := by
 have hp' : tmps[p]?.getD undef = .pointer (some ⟨g, 0, none⟩) := by simpa using hp
 simp [results, h, hp', asAddr, run_loadVar_row (P := Tryz.prog) w g 94 94 #[a, b, c] (0, 0) _ hg Tryz.underlying94 rfl (by kernel_rfl)]
theorem put3 {w : World} {g t : Nat} {x0 x1 x2 : Value} (h : w.heap[g]? = some (.cells #[x0, x1, x2] t)) (a b c : Value) :
  (((w.setCell ⟨g, 0, none⟩ a).setCell ⟨g, 1, none⟩ b).setCell ⟨g, 2, none⟩ c).heap[g]? = some (.cells #[a, b, c] t) := by
 have h1 := heap_setCell_same w g 0 _ t a h
 have h2 := heap_setCell_same _ g 1 _ t b h1
 have h3 := heap_setCell_same _ g 2 _ t c h2
 simpa using h3
theorem Zbv {w : World} {g k : Nat} (hk : k ≠ g) (a b c : Value) : (((w.setCell ⟨g, 0, none⟩ a).setCell ⟨g, 1, none⟩ b).setCell ⟨g, 2, none⟩ c).heap[k]? = w.heap[k]? := by
 rw [heap_setCell_other _ _ _ _ hk, heap_setCell_other _ _ _ _ hk, heap_setCell_other _ _ _ _ hk]
theorem Za0 {B : Nat} {w0 w : World} {g : Nat} (h : Below B w0 w) (hg : B <= g) (a b c : Value) : Below B w0 (((w.setCell ⟨g, 0, none⟩ a).setCell ⟨g, 1, none⟩ b).setCell ⟨g, 2, none⟩ c) :=
 ((h.setCell hg a).setCell hg b).setCell hg c
def z3 : Array Value := #[.bool false, .slice none 0 0, .slice none 0 0]
set_option maxHeartbeats 1000000 in
theorem Zdb (a : Option Addr) (n c : Nat) (b : List Int) (w : World) (h : Ag w a n c b) (hn : n <= 140737488351232) :
  Calls Tryz.prog 55 #[.slice a n c] w fun e w' => e = .returned (.agg #[.bool false, .slice (some ⟨w.heap.size + 1, 0, none⟩) n n, .slice none 0 0]) /\ Row (w.heap.size + 1) w' b /\ Below w.heap.size w w' := by
 have hmk := run_make_row' (P := Tryz.prog) 32 5 (.int .u8 0) 1 Tryz.underlying32 info5b rfl .i64 .i64 n (by omega) (by omega)
 obtain ⟨w0, hw0⟩ : ∃ w0, w.alloc (.cells #[.bool false, .slice none 0 0, .slice none 0 0] 94) = w0 := ⟨_, rfl⟩
 have hs0 : w0.heap.size = w.heap.size + 1 := by rw [<- hw0]; simp
 have hbw0 : Below w.heap.size w w0 := by rw [<- hw0]; exact (Below.refl _ _).alloc (Nat.le_refl _) _
 have hres : w0.heap[w.heap.size]? = some (.cells #[.bool false, .slice none 0 0, .slice none 0 0] 94) := by rw [<- hw0]; exact heap_alloc_new _ _
 have hrow : Row w0.heap.size (w0.alloc (.cells (madeCells #[.int .u8 0] n) 5)) (List.replicate n 0) := by
  unfold Row; rw [heap_alloc_new, made_bytes]
 have hbw : Below w.heap.size w (w0.alloc (.cells (madeCells #[.int .u8 0] n) 5)) := hbw0.alloc (by omega) _
 obtain ⟨w1, hrun, hrow1, ht⟩ := Zlb (o := 0) (dl := n) (dc := n) (da := some ⟨w0.heap.size, 0, none⟩) hrow (h.at hbw) rfl (by simp) (fun _ => rfl)
 rw [List.take_zero, List.nil_append, Nat.zero_add, List.drop_of_length_le (by simp), List.append_nil] at hrow1
 have hres1 : w1.heap[w.heap.size]? = some (.cells #[.bool false, .slice none 0 0, .slice none 0 0] 94) := (ht.block _ (by simp; omega) (by omega)).trans ((Below.heap_alloc _ _ _ (by omega)).trans hres)
 have hb1 := Touch.below hbw ht (by omega) hbw.size
 rw [hs0] at hrun hrow1
 rw [<- hw0] at hrun
 have HRUN := Hid.mk hrun
 have HROW := Hid.mk hrow1
 have HB := Hid.mk hb1
 have HRES := Hid.mk hres1
 have x0 : w1.cell? ⟨w.heap.size, 0, none⟩ = some (.bool false) := by rw [cell_of_row _ _ _ _ _ _ hres1]; rfl
 have x1 : w1.cell? ⟨w.heap.size, 1, none⟩ = some (.slice none 0 0) := by rw [cell_of_row _ _ _ _ _ _ hres1]; rfl
 have x2 : w1.cell? ⟨w.heap.size, 2, none⟩ = some (.slice none 0 0) := by rw [cell_of_row _ _ _ _ _ _ hres1]; rfl
 have xf : ∀ o, w1.frozen? ⟨w.heap.size, o, none⟩ = false := fun o => frozen_of_row _ _ _ _ _ hres1
 clear hrow hrun hrow1 ht hbw h hw0 hs0 hbw0 hres hres1 hb1
 go_enter Tryz.func55, Tryz.ntmps55
 go_wp2_with (first | refine wpl_copy rfl _ _ rfl _ _ rfl rfl (HRUN.out _) ?_)
 have hr := put3 HRES.out (.bool false) (.slice (some ⟨w.heap.size + 1, 0, none⟩) n n) (.slice none 0 0)
 refine bodyPost_ret (results_cell_row Tryz.results55 _ _ w.heap.size 94 _ (0, 0) _ rfl hr Tryz.underlying94 rfl (by kernel_rfl)) rfl ?_
 exact ⟨rfl, (Zbv (by omega) _ _ _).trans HROW.out, Za0 HB.out (Nat.le_refl _) _ _ _⟩
def lenOf : Value -> Nat | .slice _ n _ => n | _ => 0
theorem Zcc {w : World} {ops : Array Oper} {rest : List Oper} {o : Oper} {a : Act} {Q : Exit -> Act -> World -> Prop} (hgd : o.guard = none) (s x : Operand)
  (ho : o.op = .call { callee := .builtin .append, args := #[s, x], argTypes := #[92, 92] }) (v u : Value) (hd : a.eval s = v) (hx : a.eval x = u) {v' : Value} {w' : World}
  (hr : (Builtin.append_ #[92, 92] o.type #[v, u]).run Tryz.prog w = .ok v' w') (h : wpList Tryz.prog ops Q rest (a.put o.dst v') w') : wpList Tryz.prog ops Q (o :: rest) a w := by
 refine wpList_plain hgd fun K hK => ?_
 unfold Oper.wp
 simp [execOp, ho, resolve, invoke, builtin, hd, hx, hr, Result.andThen]
 exact hK _ _ h
def ReadPost (w : World) (r : R) : Ending -> World -> Prop := fun e w' => Below w.heap.size w w' ∧
 match r with
 | .bad er => e = .returned (.tuple #[.agg #[.bool false, .slice none 0 0, .slice none 0 0], .int .i64 0, .int .i64 (er : Nat)]) /\ er ≠ 0
 | .ok t m => ∃ y : V, e = .returned (.tuple #[.agg #[.bool y.l, .slice y.ba y.bn y.bc, .slice y.ia y.m y.ic], .int .i64 (m : Nat), .int .i64 0]) /\ LiesP (fun b => w.heap.size <= b) w' t y
def ReadSaid (k : Nat) : Prop := ∀ (a : Option Addr) (n c d : Nat) (b : List Int) (w : World), Ag w a n c b -> d + k = 8 -> n <= 140737488351232 -> Calls Tryz.prog 123 #[.slice a n c, .int .i64 d] w (ReadPost w (rd k b))
def AllPost (w : World) (r : RL) : Ending -> World -> Prop := fun e w' => Below w.heap.size w w' ∧
 match r with
 | .bad er => e = .returned (.tuple #[.slice none 0 0, .int .i64 (er : Nat)]) /\ er ≠ 0
 | .ok ts => ∃ ia ic, e = .returned (.tuple #[.slice ia ts.length ic, .int .i64 0]) /\ ts.length <= ic /\ ic <= maxLen /\ LiesPAll (fun b => w.heap.size <= b) w' ts ia 0
def RL.pre (ts : List T) : RL -> RL
 | .bad e => .bad e
 | .ok us => .ok (ts ++ us)
theorem Zrz (r : RL) : RL.pre [] r = r := by cases r <;> rfl
theorem Zol {f : List Int -> R} (hf : ∀ b t m, f b = .ok t m -> 1 <= m) {ts : List T} {t : T} {m : Nat} {b : List Int} (hb : b ≠ []) (h : f b = .ok t m) : RL.pre ts (rdAll f b.length b) = RL.pre (ts ++ [t]) (rdAll f (b.drop m).length (b.drop m)) := by
 have hm := hf _ _ _ h
 have hl : 0 < b.length := List.length_pos_iff.2 hb
 obtain ⟨n, hn⟩ : ∃ n, b.length = n + 1 := ⟨b.length - 1, by omega⟩
 rw [hn, Zeq hb h, Zjt hf n (b.drop m).length (b.drop m) (by rw [List.length_drop]; omega) (Nat.le_refl _)]
 cases rdAll f (b.drop m).length (b.drop m) with
 | bad e => rfl
 | ok us => simp [RL.pre]
theorem Zfo {f : List Int -> R} (hf : ∀ b t m, f b = .ok t m -> 1 <= m /\ m <= b.length) : ∀ n b ts, rdAll f n b = .ok ts -> ts.length <= b.length
 | n, [], ts, h => by rw [Zc4] at h; cases h; simp
 | 0, _ :: _, ts, h => by cases h
 | n + 1, x :: b, ts, h => by
  cases hx : f (x :: b) with
  | bad e => rw [Zdp (by simp) hx] at h; cases h
  | ok t m =>
   have hm := hf _ _ _ hx
   rw [Zeq (by simp) hx] at h
   cases hr : rdAll f n ((x :: b).drop m) with
   | bad e => rw [hr] at h; cases h
   | ok us =>
    rw [hr] at h
    cases h
    have := Zfo hf n _ us hr
    rw [List.length_drop] at this
    simp only [List.length_cons] at *
    omega
theorem Zdq {w : World} {base : Nat} {v : Value} {ys : List V} (h : OwnI w base v ys) {g : Nat} (hg : v.ownBlock = some g) : base <= g /\ g < w.heap.size := by
 rcases h.2 with ⟨rfl, _⟩ | ⟨g', cap, cur, rfl, hbg, hh, _⟩
 ·cases hg
 ·cases hg
  exact ⟨hbg, lt_of_get hh⟩
theorem Zca {w w' : World} {base : Nat} {v : Value} {ys : List V} (h : OwnI w base v ys) (hk : ∀ g, v.ownBlock = some g -> g < w.heap.size -> w'.heap[g]? = w.heap[g]?) : OwnI w' base v ys := by
 refine ⟨h.1, ?_⟩
 rcases h.2 with h2 | ⟨g, cap, cur, hv, hb, hh, r⟩
 ·exact .inl h2
 ·exact .inr ⟨g, cap, cur, hv, hb, (hk g (by rw [hv]; rfl) (lt_of_get hh)).trans hh, r⟩
theorem Zjo {w wr w1 : World} {it : Value} {ys : List V} {ts : List T} {y : V} {t : T} (hown : OwnI wr w.heap.size it ys) (hall : AllP (fun b => w.heap.size <= b /\ it.ownBlock ≠ some b) wr ts ys) (hbel : Below w.heap.size w wr) (hb1 : Below wr.heap.size wr w1)
  (hy : LiesP (fun b => wr.heap.size <= b) w1 t y) (hlen : ys.length <= 1000000000) (ty : TypeId) :
  ∃ v' w3, (Builtin.append_ #[92, 92] ty #[it, .slice (some ⟨w1.heap.size + 1, 0, none⟩) 1 1]).run Tryz.prog ((w1.alloc (.cells #[.bool y.l, .slice y.ba y.bn y.bc, .slice y.ia y.m y.ic] 94)).alloc (.cells #[.bool y.l, .slice y.ba y.bn y.bc, .slice y.ia y.m y.ic] 94)) = .ok v' w3 ∧
   OwnI w3 w.heap.size v' (ys ++ [y]) /\ AllP (fun b => w.heap.size <= b /\ v'.ownBlock ≠ some b) w3 (ts ++ [t]) (ys ++ [y]) /\ Below w.heap.size w w3 := by
 obtain ⟨Y, hY⟩ : ∃ Y : Obj, Obj.cells #[.bool y.l, .slice y.ba y.bn y.bc, .slice y.ia y.m y.ic] 94 = Y := ⟨_, rfl⟩
 rw [hY]
 have hs2 : ((w1.alloc Y).alloc Y).heap.size = w1.heap.size + 2 := by simp
 have hb2 : Below wr.heap.size wr ((w1.alloc Y).alloc Y) := (hb1.alloc hb1.size _).alloc (by have := hb1.size; simp; omega) _
 have hz := hbel.size
 have hz1 := hb1.size
 have hblk : ((w1.alloc Y).alloc Y).heap[w1.heap.size + 1]? = some Y := heap_alloc2_new w1 Y Y
 have hnews : ∀ j u, (V.cells y)[j]? = some u -> ((w1.alloc Y).alloc Y).cell? ((⟨w1.heap.size + 1, 0, none⟩ : Addr).add j) = some u := by
  intro j u hu
  rw [Zax, Nat.zero_add]
  rw [<- hY] at hblk ⊢
  rw [cell_of_row _ _ _ _ _ _ hblk]
  simpa [V.cells] using hu
 obtain ⟨v', w3, hrun, hown3, hgr, hown4⟩ := Zhq (Zca hown fun g _ hg => hb2.block g hg) y _ 1 hnews (by omega) hlen ty
 have hfar : ∀ b, b < w1.heap.size + 2 -> it.ownBlock ≠ some b -> w3.heap[b]? = ((w1.alloc Y).alloc Y).heap[b]? := fun b hb hne => hgr.block b (by rw [hs2]; exact hb) (fun h => hne h.symm)
 have hit : ∀ g, it.ownBlock = some g -> g < wr.heap.size := fun g hg => (Zdq hown hg).2
 have hv' : ∀ b, b < w1.heap.size -> it.ownBlock ≠ some b -> v'.ownBlock ≠ some b := fun b hb hne h => by
  rcases hown4 with h4 | h4
  ·exact hne (h4.symm.trans h)
  ·rw [h4, hs2] at h; cases h; omega
 refine ⟨v', w3, hrun, hown3, AllP.snoc ?_ (hall.mono fun b hb hlt => ⟨?_, hb.1, hv' b (by omega) hb.2⟩), ?_⟩
 ·refine Zak (fun b hb hlt => ⟨?_, by omega, ?_⟩) t y hy
  ·have hne : it.ownBlock ≠ some b := fun h => by have := hit b h; omega
   rw [hfar b (by omega) hne, Below.heap_alloc _ _ _ (by simp; omega), Below.heap_alloc _ _ _ hlt]
  ·exact hv' b hlt (fun h => by have := hit b h; omega)
 ·rw [hfar b (by omega) hb.2]
  exact hb2.block b hlt
 ·refine hbel.trans ⟨hgr.os.trans hb2.os, hgr.tape.trans hb2.tape, hgr.output.trans hb2.output, Nat.le_trans hb2.size hgr.size, fun b hb => ?_⟩
  rw [hfar b (by omega) (fun h => by have := (Zdq hown h).1; omega)]
  exact hb2.block b (by omega)
set_option maxHeartbeats 1000000 in
theorem Zne (k : Nat) (hread : ReadSaid k) (a : Option Addr) (n c d : Nat) (b : List Int) (w : World) (h : Ag w a n c b) (hd : d + k = 8) (hn : n < 16777216) :
  Calls Tryz.prog 127 #[.slice a n c, .int .i64 d] w (AllPost w (rdAll (rd k) b.length b)) := by
 have HRD := Hid.mk hread
 have HA := Hid.mk h
 obtain ⟨res, hres⟩ : ∃ r, rdAll (rd k) b.length b = r := ⟨_, rfl⟩
 rw [hres]
 have HRES := Hid.mk hres
 have HL := Hid.mk h.l
 clear hread h hres
 go_enter Tryz.func127, Tryz.ntmps127
 go_wp2_with fail
 go_loopw [0, 6] (fun bo it v => ∃ (aj : Option Addr) (nj cj : Nat) (bj : List Int) (ts : List T) (ys : List V), bo = .slice aj nj cj /\ Ag w aj nj cj bj /\ nj + ts.length <= n /\ res = RL.pre ts (rdAll (rd k) bj.length bj) /\ OwnI v w.heap.size it ys /\ AllP (fun b => w.heap.size <= b /\ it.ownBlock ≠ some b) v ts ys /\ Below w.heap.size w v) (fun bo _ _ => lenOf bo)
 case atStart => exact ⟨a, n, c, b, [], [], rfl, HA.out, by simp, by rw [Zrz]; exact HRES.out.symm, World.ownsRow_nil _ _ _ _, trivial, Below.refl _ _⟩
 case round =>
  obtain ⟨aj, nj, cj, bj, ts, ys, rfl, hag, hnj, hres, hown, hall, hbel⟩ := hrel
  have hlj := hag.l
  by_cases h0 : nj = 0
  ·subst h0
   have hb0 : bj = [] := List.eq_nil_of_length_eq_zero hlj
   subst hb0
   rw [Zc4] at hres
   obtain ⟨ia, ic, rfl, e2, e3, e4⟩ := Zkx (P := fun b => w.heap.size <= b) hown (hall.mono fun b hb _ => ⟨rfl, hb.1⟩) (fun g hg => World.ownsRow.lt hown g hg |>.1)
   have HF : Hid (AllPost w res (.returned (.tuple #[.slice ia ts.length ic, .int .i64 0])) wr) := by
    rw [hres]
    simp only [RL.pre, List.append_nil]
    exact ⟨hbel, ia, ic, rfl, e2, e3, e4⟩
   clear hag hres hown hall hbel e2 e3 e4 hlj
   go_wp2_with fail
   go_ret2
   exact HF.out
  ·have hb0 : bj ≠ [] := fun h => by rw [h] at hlj; simp at hlj; omega
   have hni : (0 : Int) < nj := by omega
   have hnn : 0 < nj := by omega
   obtain ⟨gj, offj, rfl, hc1, hc2, hcc⟩ := ag_head hag hnn
   unfold maxLen at hc2
   have hcal := HRD.out _ nj cj d bj wr (hag.at hbel) hd (by omega)
   have HCAL := Hid.mk hcal
   have HAG := Hid.mk hag
   have HREL := Hid.mk (And.intro hres (And.intro hown (And.intro hall hbel)))
   clear hcal hag hres hown hall hbel hcc hlj
   go_wp2_with fail
   refine HCAL.out.mono ?_
   rintro e w1 ⟨hb1, hm⟩
   obtain ⟨hres, hown, hall, hbel⟩ := HREL.out
   cases hr : rd k bj with
   | bad er =>
    rw [hr] at hm
    obtain ⟨rfl, her⟩ := hm
    have hfin : res = .bad er := by
     rw [hres]
     obtain ⟨q, hq⟩ : ∃ q, bj.length = q + 1 := ⟨bj.length - 1, by have := HAG.out.l; omega⟩
     rw [hq, Zdp hb0 hr]
     rfl
    have HF : Hid (∀ w', Below w.heap.size w w' -> AllPost w res (.returned (.tuple #[.slice none 0 0, .int .i64 (er : Nat)])) w') := fun w' hw' => by rw [hfin]; exact ⟨hw', rfl, her⟩
    have hee : ((er : Int) != 0) = true := by rw [bne_iff_ne]; omega
    have HB := Hid.mk ((hbel.trans (hb1.mono hbel.size)).alloc (Nat.le_trans hbel.size hb1.size) (.cells #[.bool false, .slice none 0 0, .slice none 0 0] 94))
    clear hfin hres hown hall hbel hb1 her hr HREL
    go_wp2_with fail
    go_ret2
    exact HF.out _ HB.out
   | ok t m =>
    rw [hr] at hm
    obtain ⟨y, rfl, hy⟩ := hm
    have HH := Hid.mk (And.intro hres (And.intro hown (And.intro hall (And.intro hbel (And.intro hb1 hy)))))
    obtain ⟨hm1, hm2⟩ := rd_n hr
    have hml := HAG.out.l
    have HRR := Hid.mk hr
    have hyl : ys.length <= 1000000000 := by have := hall.len; omega
    obtain ⟨v', w3, hrun, s1, s2, s3⟩ := Zjo hown hall hbel hb1 hy hyl 92
    have HRUN := Hid.mk hrun
    have hdrop := ag_drop HAG.out (k := m) (by omega)
    have hpre := Zol (f := rd k) (ts := ts) (fun b t m h => (rd_n h).1) hb0 hr
    have HEND : Hid (∃ (bj' : List Int) (ts' : List T) (ys' : List V), Ag w (if cj = m then some ⟨gj, offj, none⟩ else some ⟨gj, offj + m, none⟩) (nj - m) (cj - m) bj' /\ nj - m + ts'.length <= n /\ res = RL.pre ts' (rdAll (rd k) bj'.length bj') /\ OwnI w3 w.heap.size v' ys' /\ AllP (fun b => w.heap.size <= b /\ v'.ownBlock ≠ some b) w3 ts' ys' /\ Below w.heap.size w w3) :=
     ⟨bj.drop m, ts ++ [t], ys ++ [y], hdrop, by rw [List.length_append]; simp; omega, by rw [hres, hpre], s1, s2, s3⟩
    have hmi : (m : Int) <= nj := by omega
    clear hres hown hall hbel hb1 hy hr HREL hrun s1 s2 s3 hdrop hpre hyl HH
    go_wp2_with (first | refine Zcc rfl _ _ rfl _ _ rfl rfl HRUN.out ?_)
    obtain ⟨bj', ts', ys', e1, e2, e3, e4, e5, e6⟩ := HEND.out
    refine ⟨⟨_, nj - m, cj - m, bj', ts', ys', rfl, e1, e2, e3, e4, e5, e6⟩, ?_⟩
    simp only [lenOf]
    omega
end Go.Proofs.YtdkpilgelgjieaaGreat

/- Bits of bytes; two new cells. -/
import Derived.Test.YtchgejomcgoaeaaGreatG08
import Derived.Test.YtchgejomcgoaeaaGreatG14
set_option linter.unusedVariables false
namespace Go.Proofs.YtchgejomcgoaeaaGreat.Ni
open Go.RowKit
theorem Zq8 : ∀ x : Fin 256, bits BinOp.and IntKind.u8 (x.val : Int) 15 = (x.val : Int) % 16 := by decide +kernel
theorem Zxr : ∀ x y : Fin 16, bits BinOp.or IntKind.u8 ((x.val : Int) * 16) (y.val : Int) = 16 * (x.val : Int) + (y.val : Int) := by decide +kernel
theorem Zyt {x : Int} (h0 : 0 ≤ x) (h1 : x < 256) : bits BinOp.and IntKind.u8 x 15 = x % 16 := by
  have := Zq8 ⟨x.toNat, by omega⟩
  rwa [show ((x.toNat : Nat) : Int) = x from by omega] at this
theorem or16 {x y : Int} (h0 : 0 ≤ x) (h1 : x ≤ 15) (h2 : 0 ≤ y) (h3 : y ≤ 15) : bits BinOp.or IntKind.u8 (x * 16) y = 16 * x + y := by
  have := Zxr ⟨x.toNat, by omega⟩ ⟨y.toNat, by omega⟩
  rwa [show ((x.toNat : Nat) : Int) = x from by omega, show ((y.toNat : Nat) : Int) = y from by omega] at this
theorem Zsg (w : World) (base : Nat) : OwnB w base (.slice none 0 0) [] := ⟨rfl, .inl ⟨rfl, rfl⟩⟩
theorem ag_nil (w : World) : Ag w none 0 0 [] := ⟨.inl ⟨rfl, rfl⟩, fun _ => ⟨rfl, rfl⟩, rfl, fun x hx => by cases hx⟩
theorem Zwp (w : World) (a : Option Addr) : Ag w a 0 0 [] := ⟨.inl ⟨rfl, rfl⟩, fun _ => ⟨rfl, rfl⟩, rfl, fun x hx => by cases hx⟩
theorem Zv8 (w : World) (x y : Int) : In0 (w.alloc (.cells #[.int .u8 x, .int .u8 y] 5)) (some ⟨w.heap.size, 0, none⟩) 2 2 [x, y] :=
  .inr ⟨w.heap.size, 0, rfl, rfl, by omega, Nat.le_refl _, by unfold maxLen; omega, fun j hj => by
    have : j = 0 ∨ j = 1 := by simp at hj; omega
    rcases this with rfl | rfl <;> (rw [cell_of_row _ _ _ _ _ _ (heap_alloc_new _ _)]; rfl)⟩
theorem below_go {w0 w w' : World} (h : Below w0.heap.size w0 w) (hb : Below w.heap.size w w') : Below w0.heap.size w0 w' := h.trans (hb.mono h.size)
theorem below_new (w : World) (o : Obj) : Below w.heap.size w (w.alloc o) := (Below.refl _ _).alloc (Nat.le_refl _) _
end Go.Proofs.YtchgejomcgoaeaaGreat.Ni
namespace Go.Proofs.YtchgejomcgoaeaaGreat.Ni
open Go.RowKit
structure Cut (w : World) (base : Nat) (a : Option Addr) (n : Nat) (bs : List Int) : Prop where
  ag : Ag w a n n bs
  own : 0 < n → ∃ g off cur, a = some ⟨g, off, none⟩ ∧ base ≤ g ∧ w.heap[g]? = some (.cells cur 5)
theorem Zqr (b : List Int) (k j : Nat) : (b.drop k).getD j 0 = b.getD (k + j) 0 := by
  rw [List.getD, List.getD, List.getElem?_drop]
theorem Zq3 (n c k : Nat) (w : World) (hk : k < n) (hnc : n ≤ c) (hc : c ≤ maxLen) (hn : n ≤ 140737488355328) (g off : Nat) :
    Calls Tryz.prog 59 #[.slice (some ⟨g, off, none⟩) n c, .int .i64 k] w fun e w' => e = .returned (.slice (some ⟨g, off + k, none⟩) (n - k) (n - k)) ∧ w' = w := by
  unfold maxLen at hc
  have h1 : (k : Int) ≤ n := by omega
  have h2 : (n : Int) ≤ c := by omega
  have h3 : ¬ n = k := by omega
  go_enter Tryz.func59, Tryz.ntmps59
  go_wp2_with fail
  go_ret
  exact ⟨rfl, rfl⟩
theorem Znu (a : Option Addr) (n c : Nat) (w : World) (hnc : n ≤ c) (hc : c ≤ maxLen) (hn : n ≤ 140737488355328) (hd : a = none → n = 0 ∧ c = 0) :
    Calls Tryz.prog 59 #[.slice a n c, .int .i64 n] w fun e w' => (∃ a', e = .returned (.slice a' 0 0)) ∧ w' = w := by
  unfold maxLen at hc
  have h2 : (n : Int) ≤ c := by omega
  cases a with
  | none =>
    obtain ⟨rfl, rfl⟩ := hd rfl
    clear hd
    rw [show ((0 : Nat) : Int) = 0 from rfl]
    go_enter Tryz.func59, Tryz.ntmps59
    go_wp2_with fail
    go_ret
    exact ⟨⟨_, rfl⟩, rfl⟩
  | some ad =>
    clear hd
    go_enter Tryz.func59, Tryz.ntmps59
    go_wp2_with fail
    go_ret
    exact ⟨⟨_, rfl⟩, rfl⟩
theorem behind_any (a : Option Addr) (n c k base : Nat) (bs : List Int) (w : World) (hk : k ≤ n) (hnc : n ≤ c) (hc : c ≤ maxLen) (hn : n ≤ 140737488355328) (h : Ag w a n c bs)
    (hown : 0 < n → ∃ g off cur, a = some ⟨g, off, none⟩ ∧ base ≤ g ∧ w.heap[g]? = some (.cells cur 5)) :
    Calls Tryz.prog 59 #[.slice a n c, .int .i64 k] w fun e w' => (∃ a', e = .returned (.slice a' (n - k) (n - k)) ∧ Cut w base a' (n - k) (bs.drop k)) ∧ w' = w := by
  have hl := h.l
  by_cases hkn : k < n
  · obtain ⟨g, off, cur, rfl, hg, hh⟩ := hown (by omega)
    refine (Zq3 n c k w hkn hnc hc hn g off).mono ?_
    rintro e w' ⟨rfl, rfl⟩
    refine ⟨⟨_, rfl, ⟨⟨.inr ⟨g, off + k, rfl, by rw [List.length_drop]; omega, by omega, Nat.le_refl _, by unfold maxLen at hc ⊢; omega, fun j hj => ?_⟩, (fun h => by cases h), by rw [List.length_drop]; omega, Zmg h.b k⟩, fun _ => ⟨g, off + k, cur, rfl, hg, hh⟩⟩⟩, rfl⟩
    rcases h.i with ⟨h0, _⟩ | ⟨gb, off', h1, h2, h3, h4, h5, h7⟩
    · omega
    · injection h1 with h1
      injection h1 with e1 e2
      subst e1 e2
      rw [List.length_drop] at hj
      rw [Zqr, Nat.add_assoc]
      exact h7 (k + j) (by omega)
  · have e : k = n := by omega
    subst e
    refine (Znu a k c w hnc hc hn (fun ha => by have := h.nil ha; omega)).mono ?_
    rintro e w' ⟨⟨a', rfl⟩, rfl⟩
    rw [Nat.sub_self, List.drop_of_length_le (by omega)]
    exact ⟨⟨a', rfl, Zwp w' a', fun h => by omega⟩, rfl⟩
end Go.Proofs.YtchgejomcgoaeaaGreat.Ni
namespace Go.Proofs.YtchgejomcgoaeaaGreat.Ni
open Go.RowKit
theorem _root_.Go.Proofs.YtchgejomcgoaeaaGreat.OwnB.cutable {w : World} {base : Nat} {v : Value} {bs : List Int} (h : OwnB w base v bs) (hb : isB bs) :
    ∃ a c, v = .slice a bs.length c ∧ bs.length ≤ c ∧ c ≤ maxLen ∧ Ag w a bs.length c bs ∧ (0 < bs.length → ∃ g off cur, a = some ⟨g, off, none⟩ ∧ base ≤ g ∧ w.heap[g]? = some (.cells cur 5)) := by
  obtain ⟨a, c, hv, hag⟩ := OwnB.ag h hb
  rcases h.2 with ⟨e1, e2⟩ | ⟨k, cap, cur, e1, e2, e3, e4, e5, e6, e7⟩
  · rw [hv] at e1
    injection e1 with e1 e3 e4
    exact ⟨a, c, hv, by omega, by unfold maxLen; omega, hag, fun hp => by omega⟩
  · rw [hv] at e1
    injection e1 with e1 e8 e9
    subst e9
    exact ⟨a, c, hv, e4, e5, hag, fun _ => ⟨k, 0, cur, e1, e2, e3⟩⟩
set_option maxHeartbeats 1000000 in
theorem of_any (a : Option Addr) (n c : Nat) (b : List Int) (w : World) (h : Ag w a n c b) (hn : 2 * n ≤ 140737488355328) :
    Calls Tryz.prog 37 #[.slice a n c] w fun e w' => (∃ a', e = .returned (.slice a' (2 * n) (2 * n)) ∧ Cut w' w.heap.size a' (2 * n) (nib b)) ∧ Below w.heap.size w w' := by
  have HL := Hid.mk h.l
  have HC : Hid (0 < n → ∃ g off, a = some ⟨g, off, none⟩ ∧ n ≤ c ∧ c ≤ maxLen ∧ ∀ j, j < n → w.cell? ⟨g, off + j, none⟩ = some (.int .u8 (b.getD j 0))) := Hid.mk (ag_head h)
  have HB := Hid.mk h.b
  clear h
  go_enter Tryz.func37, Tryz.ntmps37
  go_wp2_with fail
  go_loopw [3, 8] (fun v i w' => ∃ j : Nat, j ≤ n ∧ i = .int .i64 j ∧ OwnB w' w.heap.size v (nib (b.take j)) ∧ Below w.heap.size w w') (fun _ i _ => n - (intOf i).toNat)
  case atStart => exact ⟨0, by omega, rfl, Zsg _ _, Below.refl _ _⟩
  case round =>
    obtain ⟨j, hj, rfl, hown, hb⟩ := hrel
    have HO := Hid.mk hown
    have HBW := Hid.mk hb
    clear hown hb
    by_cases hlt : j < n
    · obtain ⟨g, off, rfl, hnc, hcm, hcs⟩ := HC.out (by omega)
      unfold maxLen at hcm
      have hcell := (HBW.out.cell (p := ⟨g, off + j, none⟩) (block_lt_of_cell (hcs j hlt))).trans (hcs j hlt)
      have hjb : j < b.length := by have := HL.out; omega
      have hx := HB.out _ (getD_mem hjb)
      have HN := Hid.mk (Zsn hjb)
      have HNL : Hid ((nib (b.take j)).length = 2 * j) := Hid.mk (by rw [Zef, List.length_take]; omega)
      generalize b.getD j 0 = x at hcell hx HN
      obtain ⟨hx0, hx1⟩ := hx
      have hji : (j : Int) < n := by omega
      have hand := Zyt hx0 hx1
      clear hcs hjb
      have HO2 : Hid (∀ o : Obj, OwnB (wr.alloc o) w.heap.size u3 (nib (b.take j))) := Hid.mk fun o => OwnB.alloc HO.out o
      have HSZ := Hid.mk HBW.out.size
      clear HO
      go_wp2_with (first | (at_builtin; refine Zq7 rfl (.tmp 12) (.tmp 17) rfl w.heap.size _ (nib (b.take j)) rfl (HO2.out _) (some ⟨wr.heap.size, 0, none⟩) 2 2 [x / 16, x % 16] rfl (Zv8 wr _ _) (fun h => by cases h) rfl (by rw [HNL.out]; omega) (by have := HSZ.out; simp; omega) ?_; intro v1 w1 o1 hb1; rw [← HN.out] at o1; have HO1 := Hid.mk o1; have HB1 := Hid.mk hb1; clear o1 hb1))
      refine ⟨⟨j + 1, by omega, by simp, HO1.out, ?_⟩, by simp [intOf]; omega⟩
      exact (HBW.out.alloc HSZ.out _).trans HB1.out
    · have hji : ¬ (j : Int) < n := by omega
      have hbt : b.take j = b := List.take_of_length_le (by have := HL.out; omega)
      rw [hbt] at HO
      obtain ⟨a', c', rfl, h1, h2, h3, h4⟩ := HO.out.cutable (Zpt HB.out)
      have hln : (nib b).length = 2 * n := by rw [Zef, HL.out]
      rw [hln] at h1 h3 h4 ⊢
      have hcal := behind_any a' (2 * n) c' 0 w.heap.size (nib b) _ (by omega) h1 h2 (by omega) h3 h4
      rw [show ((0 : Nat) : Int) = 0 from rfl, Nat.sub_zero, List.drop_zero] at hcal
      have HCAL := Hid.mk hcal
      clear hbt h1 h2 h3 h4 hln hcal
      go_wp2_with fail
      refine HCAL.out.mono ?_
      rintro e w1 ⟨⟨a1, rfl, hcut⟩, rfl⟩
      have HCUT := Hid.mk hcut
      clear hcut
      go_wp2_with fail
      go_ret
      exact ⟨⟨a1, rfl, HCUT.out⟩, HBW.out⟩
end Go.Proofs.YtchgejomcgoaeaaGreat.Ni

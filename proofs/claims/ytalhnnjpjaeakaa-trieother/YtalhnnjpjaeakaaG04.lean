/- Bits of bytes; two new cells. -/
import Derived.Test.YtalhnnjpjaeakaaG00
import Derived.Test.YtalhnnjpjaeakaaG03
namespace Go.Proofs.Ytalhnnjpjaeakaa.Ni
open Go.RowKit
set_option linter.unusedVariables false
theorem and15_all : ∀ x : Fin 256, bits BinOp.and IntKind.u8 (x.val : Int) 15 = (x.val : Int) % 16 := by decide +kernel
theorem and1_all : ∀ x : Fin 256, bits BinOp.and IntKind.u8 (x.val : Int) 1 = (x.val : Int) % 2 := by decide +kernel
theorem and2_all : ∀ x : Fin 256, bits BinOp.and IntKind.u8 (x.val : Int) 2 = if (x.val : Int) % 4 ≥ 2 then 2 else 0 := by decide +kernel
theorem or_all : ∀ x y : Fin 16, bits BinOp.or IntKind.u8 ((x.val : Int) * 16) (y.val : Int) = 16 * (x.val : Int) + (y.val : Int) := by decide +kernel
theorem and15 {x : Int} (h0 : 0 ≤ x) (h1 : x < 256) : bits BinOp.and IntKind.u8 x 15 = x % 16 := by
  have := and15_all ⟨x.toNat, by omega⟩
  rwa [show ((x.toNat : Nat) : Int) = x from by omega] at this
theorem and1 {x : Int} (h0 : 0 ≤ x) (h1 : x < 256) : bits BinOp.and IntKind.u8 x 1 = x % 2 := by
  have := and1_all ⟨x.toNat, by omega⟩
  rwa [show ((x.toNat : Nat) : Int) = x from by omega] at this
theorem and2 {x : Int} (h0 : 0 ≤ x) (h1 : x < 256) : bits BinOp.and IntKind.u8 x 2 = if x % 4 ≥ 2 then 2 else 0 := by
  have := and2_all ⟨x.toNat, by omega⟩
  rwa [show ((x.toNat : Nat) : Int) = x from by omega] at this
theorem or16 {x y : Int} (h0 : 0 ≤ x) (h1 : x ≤ 15) (h2 : 0 ≤ y) (h3 : y ≤ 15) : bits BinOp.or IntKind.u8 (x * 16) y = 16 * x + y := by
  have := or_all ⟨x.toNat, by omega⟩ ⟨y.toNat, by omega⟩
  rwa [show ((x.toNat : Nat) : Int) = x from by omega, show ((y.toNat : Nat) : Int) = y from by omega] at this
theorem ownB_nil (w : World) (base : Nat) : OwnB w base (.slice none 0 0) [] := ⟨rfl, .inl ⟨rfl, rfl⟩⟩
theorem ag_nil (w : World) : Ag w none 0 0 [] := ⟨.inl ⟨rfl, rfl⟩, fun _ => ⟨rfl, rfl⟩, rfl, fun x hx => by cases hx⟩
theorem ag_zero (w : World) (a : Option Addr) : Ag w a 0 0 [] := ⟨.inl ⟨rfl, rfl⟩, fun _ => ⟨rfl, rfl⟩, rfl, fun x hx => by cases hx⟩
theorem in0_one (w : World) (x : Int) : In0 (w.alloc (.cells #[.int .u8 x] 5)) (some ⟨w.heap.size, 0, none⟩) 1 1 [x] :=
  .inr ⟨w.heap.size, 0, rfl, rfl, by omega, Nat.le_refl _, by unfold maxLen; omega, fun j hj => by
    have : j = 0 := by simp at hj; omega
    subst this
    rw [cell_of_row _ _ _ _ _ _ (heap_alloc_new _ _)]
    rfl⟩
theorem in0_two (w : World) (x y : Int) : In0 (w.alloc (.cells #[.int .u8 x, .int .u8 y] 5)) (some ⟨w.heap.size, 0, none⟩) 2 2 [x, y] :=
  .inr ⟨w.heap.size, 0, rfl, rfl, by omega, Nat.le_refl _, by unfold maxLen; omega, fun j hj => by
    have : j = 0 ∨ j = 1 := by simp at hj; omega
    rcases this with rfl | rfl <;> (rw [cell_of_row _ _ _ _ _ _ (heap_alloc_new _ _)]; rfl)⟩
theorem below_go {w0 w w' : World} (h : Below w0.heap.size w0 w) (hb : Below w.heap.size w w') : Below w0.heap.size w0 w' := h.trans (hb.mono h.size)
theorem below_new (w : World) (o : Obj) : Below w.heap.size w (w.alloc o) := (Below.refl _ _).alloc (Nat.le_refl _) _
theorem _root_.Go.Proofs.Ytalhnnjpjaeakaa.Ag.drewN {w : World} {a : Option Addr} {len cap : Nat} {bs : List Int} (h : Ag w a len cap bs) : Ag w.drew a len cap bs := ⟨h.i.drew, h.nil, h.l, h.b⟩
end Go.Proofs.Ytalhnnjpjaeakaa.Ni
/- What behind and Of answer: a path in memory of its own, cut with its end. -/
namespace Go.Proofs.Ytalhnnjpjaeakaa.Ni
open Go.RowKit
set_option linter.unusedVariables false
/-- A row of bytes in a block of its own, from a place on, with no room behind it. -/
structure Cut (w : World) (base : Nat) (a : Option Addr) (n : Nat) (bs : List Int) : Prop where
  ag : Ag w a n n bs
  own : 0 < n → ∃ g off cur, a = some ⟨g, off, none⟩ ∧ base ≤ g ∧ w.heap[g]? = some (.cells cur 5)
theorem drop_getD (b : List Int) (k j : Nat) : (b.drop k).getD j 0 = b.getD (k + j) 0 := by
  rw [List.getD, List.getD, List.getElem?_drop]
theorem behind_in (n c k : Nat) (w : World) (hk : k < n) (hnc : n ≤ c) (hc : c ≤ maxLen) (hn : n ≤ 140737488355328) (g off : Nat) :
    Calls Try.prog 21 #[.slice (some ⟨g, off, none⟩) n c, .int .i64 k] w fun e w' => e = .returned (.slice (some ⟨g, off + k, none⟩) (n - k) (n - k)) ∧ w' = w := by
  unfold maxLen at hc
  have h1 : (k : Int) ≤ n := by omega
  have h2 : (n : Int) ≤ c := by omega
  have h3 : ¬ n = k := by omega
  go_enter Try.func21, Try.ntmps21
  go_wp2_with fail
  go_ret
  exact ⟨rfl, rfl⟩
theorem behind_end (a : Option Addr) (n c : Nat) (w : World) (hnc : n ≤ c) (hc : c ≤ maxLen) (hn : n ≤ 140737488355328) (hd : a = none → n = 0 ∧ c = 0) :
    Calls Try.prog 21 #[.slice a n c, .int .i64 n] w fun e w' => (∃ a', e = .returned (.slice a' 0 0)) ∧ w' = w := by
  unfold maxLen at hc
  have h2 : (n : Int) ≤ c := by omega
  cases a with
  | none =>
    obtain ⟨rfl, rfl⟩ := hd rfl
    clear hd
    rw [show ((0 : Nat) : Int) = 0 from rfl]
    go_enter Try.func21, Try.ntmps21
    go_wp2_with fail
    go_ret
    exact ⟨⟨_, rfl⟩, rfl⟩
  | some ad =>
    clear hd
    go_enter Try.func21, Try.ntmps21
    go_wp2_with fail
    go_ret
    exact ⟨⟨_, rfl⟩, rfl⟩
theorem behind_any (a : Option Addr) (n c k base : Nat) (bs : List Int) (w : World) (hk : k ≤ n) (hnc : n ≤ c) (hc : c ≤ maxLen) (hn : n ≤ 140737488355328) (h : Ag w a n c bs)
    (hown : 0 < n → ∃ g off cur, a = some ⟨g, off, none⟩ ∧ base ≤ g ∧ w.heap[g]? = some (.cells cur 5)) :
    Calls Try.prog 21 #[.slice a n c, .int .i64 k] w fun e w' => (∃ a', e = .returned (.slice a' (n - k) (n - k)) ∧ Cut w base a' (n - k) (bs.drop k)) ∧ w' = w := by
  have hl := h.l
  by_cases hkn : k < n
  · obtain ⟨g, off, cur, rfl, hg, hh⟩ := hown (by omega)
    refine (behind_in n c k w hkn hnc hc hn g off).mono ?_
    rintro e w' ⟨rfl, rfl⟩
    refine ⟨⟨_, rfl, ⟨⟨.inr ⟨g, off + k, rfl, by rw [List.length_drop]; omega, by omega, Nat.le_refl _, by unfold maxLen at hc ⊢; omega, fun j hj => ?_⟩, (fun h => by cases h), by rw [List.length_drop]; omega, isB_drop h.b k⟩, fun _ => ⟨g, off + k, cur, rfl, hg, hh⟩⟩⟩, rfl⟩
    rcases h.i with ⟨h0, _⟩ | ⟨gb, off', h1, h2, h3, h4, h5, h7⟩
    · omega
    · injection h1 with h1
      injection h1 with e1 e2
      subst e1 e2
      rw [List.length_drop] at hj
      rw [drop_getD, Nat.add_assoc]
      exact h7 (k + j) (by omega)
  · have e : k = n := by omega
    subst e
    refine (behind_end a k c w hnc hc hn (fun ha => by have := h.nil ha; omega)).mono ?_
    rintro e w' ⟨⟨a', rfl⟩, rfl⟩
    rw [Nat.sub_self, List.drop_of_length_le (by omega)]
    exact ⟨⟨a', rfl, ag_zero w' a', fun h => by omega⟩, rfl⟩
end Go.Proofs.Ytalhnnjpjaeakaa.Ni

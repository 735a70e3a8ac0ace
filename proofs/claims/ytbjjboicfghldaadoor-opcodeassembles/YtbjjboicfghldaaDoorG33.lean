/- The document's reader: plain facts; what its statements' words are. -/
import Derived.Test.YtbjjboicfghldaaDoorG32
namespace Go.Proofs.YtbjjboicfghldaaDoor
open Go.RowKit
open Wo
set_option linter.unusedVariables false
set_option maxRecDepth 100000
def rdC (l : List Int) (i t : Nat) : Array Value := #[.string (strOfNums l), .int .i64 ((i : Nat) : Int), .int .i64 ((t : Nat) : Int)]
def RRd (g : Nat) (w : World) (l : List Int) (i t : Nat) (v : Value) : Value → World → Prop := fun u w' => u = v ∧ Rw g w' (rdC l i t) 57 ∧ Touch g w w'
theorem getD_drop (l : List Int) (t j : Nat) : (l.drop t).getD j 0 = l.getD (t + j) 0 := by rw [List.getD, List.getD, List.getElem?_drop]
theorem rn_from {l : List Int} {t q : Nat} {b : Bool} (ht : t ≤ q) (hq : q ≤ l.length) (ha : ∀ j, t ≤ j → j < q → bl (l.getD j 0) = b) (hs : q = l.length ∨ bl (l.getD q 0) ≠ b) : rn (l.drop t) b = q - t := by
  refine rn_eq _ _ _ (by rw [List.length_drop]; omega) (fun j hj => by rw [getD_drop]; exact ha _ (by omega) (by omega)) ?_
  rcases hs with hs | hs
  · left; rw [List.length_drop]; omega
  · right; rw [getD_drop, show t + (q - t) = q by omega]; exact hs
theorem rd_end {l : List Int} {t q q2 : Nat} (ht : t ≤ q) (hq : q ≤ q2) (h2 : q2 ≤ l.length) (e1 : rn (l.drop t) true = q - t) (e2 : rn (l.drop q) false = q2 - q) : nxW (l.drop t) = (l.take q2).drop q ∧ t + rn (l.drop t) true = q ∧ q + (nxW (l.drop t)).length = q2 := by
  have h1 : nxW (l.drop t) = (l.take q2).drop q := by
    unfold nxW nx1
    rw [e1, List.drop_drop, show t + (q - t) = q by omega, e2, List.drop_take]
  refine ⟨h1, by omega, ?_⟩
  rw [h1, List.length_drop, List.length_take]
  omega
theorem nxR_drop {l : List Int} {t : Nat} : nxR (l.drop t) = l.drop (t + rn (l.drop t) true + (nxW (l.drop t)).length) := by
  have h1 := rn_le (nx1 (l.drop t)) false
  have h2 : (nxW (l.drop t)).length = rn (nx1 (l.drop t)) false := by unfold nxW; rw [List.length_take]; omega
  rw [h2]
  have h3 : nx1 (l.drop t) = l.drop (t + rn (l.drop t) true) := by unfold nx1; rw [List.drop_drop]
  unfold nxR
  rw [h3, List.drop_drop]
theorem vl_zeros : ∀ (j : Nat) (l : List Int), (∀ i, i < j → l.getD i 0 = 0) → vl l = vl (l.drop j)
  | 0, l, _ => by rw [List.drop_zero]
  | j + 1, [], _ => rfl
  | j + 1, x :: r, h => by
    have h0 : x = 0 := by simpa using h 0 (by omega)
    rw [List.drop_succ_cons, ← vl_zeros j r (fun i hi => by simpa using h (i + 1) (by omega)), vl_cons, h0]
    simp
theorem bek_padN : ∀ (j k m : Nat), m < 256 ^ k → bek (j + k) m = List.replicate j 0 ++ bek k m
  | 0, k, m, _ => by rw [Nat.zero_add]; rfl
  | j + 1, k, m, h => by
    have h2 : m < 256 ^ (j + k) := Nat.lt_of_lt_of_le h (Nat.pow_le_pow_right (by decide) (by omega))
    rw [show j + 1 + k = (j + k) + 1 by omega, bek_pad h2, bek_padN j k m h]
    rfl
theorem fits_iff {m k : Nat} (hm : m < W64) (hk : k ≤ 8) : (∀ j, j < 8 - k → (bek 8 m).getD j 0 = 0) ↔ m < 256 ^ k := by
  constructor
  · intro h
    have h1 := vl_zeros (8 - k) (bek 8 m) h
    rw [bek8 hk, vl_bek 8 m hm] at h1
    have h2 := vl_lt (bek k m) (bek_bd _ _)
    rw [bek_len] at h2
    omega
  · intro h j hj
    have := bek_padN (8 - k) k m h
    rw [show 8 - k + k = 8 by omega] at this
    rw [this, List.getD, List.getElem?_append_left (by simpa using hj), List.getElem?_replicate, if_pos hj]
    rfl
theorem szo_iff {m k : Nat} (hk : 1 ≤ k) : szo m ≤ k ↔ m < 256 ^ k := by
  rw [← nb_le_iff]
  unfold szo
  omega
def dupW2 : List Int := [100, 117, 112]
def swapW : List Int := [115, 119, 97, 112]
def wdW (l : List Int) : Nat := if l.length = 5 ∧ l.take 4 = pushW ∧ 49 ≤ l.getD 4 0 ∧ l.getD 4 0 ≤ 56 then (l.getD 4 0 - 48).toNat else 0
theorem wdW_yes {l : List Int} (h : wdW l ≠ 0) : 1 ≤ wdW l ∧ wdW l ≤ 8 ∧ l = pushW ++ pr (wdW l) := by
  unfold wdW at h ⊢
  split at h
  · rename_i hc
    rw [if_pos hc]
    obtain ⟨h1, h2, h3, h4⟩ := hc
    refine ⟨by omega, by omega, ?_⟩
    rw [pr_one (by omega) (by omega)]
    have e : ((48 + (l.getD 4 0 - 48).toNat : Nat) : Int) = l.getD 4 0 := by omega
    rw [e]
    match l, h1 with
    | [a, b, c, d, x], _ =>
      simp only [List.take_succ_cons, List.take_zero] at h2
      show [a, b, c, d, x] = pushW ++ [x]
      rw [← h2]
      rfl
  · exact absurd rfl h
theorem wdW_sized {k : Nat} (h1 : 1 ≤ k) (h8 : k ≤ 8) : wdW (pushW ++ pr k) = k := by
  rw [pr_one (by omega) (by omega)]
  unfold wdW
  have e : (pushW ++ [((48 + k : Nat) : Int)]).getD 4 0 = ((48 + k : Nat) : Int) := rfl
  rw [e, if_pos ⟨rfl, rfl, by omega, by omega⟩]
  omega
/-- Does a byte stand for a word that has no number? -/
def Mt (W : List Int) (x : Nat) : Prop := ∃ o, ofP ((x : Nat) : Int) = some o ∧ o.wd = W ∧ o.bh = 0
theorem mt_bg {W : List Int} {x : Nat} (h : Mt W x) : bgP W = some ([((x : Nat) : Int)], 0) := by
  obtain ⟨o, hof, rfl, h0⟩ := h
  have hp : ¬ (32 ≤ ((x : Nat) : Int) ∧ ((x : Nat) : Int) < 40) := fun hp => by
    rw [of_push hp] at hof
    cases hof
    simp only at h0
    omega
  rw [of_not hp] at hof
  cases hf : fdP ((x : Nat) : Int) with
  | none => rw [hf] at hof; cases hof
  | some q =>
    rw [hf] at hof
    cases hof
    have key : ∀ q ∈ tbl, q.bh = 0 → bgP q.wd = some ([(q.op : Int)], 0) := by decide +kernel
    have hop : (q.op : Int) = ((x : Nat) : Int) := by have := List.find?_some hf; simpa using this
    have := key q (List.mem_of_find?_eq_some hf) h0
    rw [hop] at this
    exact this
theorem bg_cases {W : List Int} (hn : ∀ x, x < 256 → ¬ Mt W x) : (bgP W = none ∧ W ≠ pushW ∧ W ≠ dupW2 ∧ W ≠ swapW ∧ W ≠ byteW ∧ wdW W = 0) ∨ W = pushW ∨ W = byteW ∨ W = dupW2 ∨ W = swapW ∨ ∃ k, 1 ≤ k ∧ k ≤ 8 ∧ W = pushW ++ pr k := by
  by_cases h1 : W = pushW
  · exact .inr (.inl h1)
  by_cases h2 : W = byteW
  · exact .inr (.inr (.inl h2))
  by_cases h3 : W = dupW2
  · exact .inr (.inr (.inr (.inl h3)))
  by_cases h4 : W = swapW
  · exact .inr (.inr (.inr (.inr (.inl h4))))
  by_cases h5 : wdW W = 0
  · refine .inl ⟨?_, h1, h3, h4, h2, h5⟩
    have hs : ∀ j, 1 ≤ j → j < 9 → W ≠ pushW ++ pr j := fun j hj1 hj2 e => by
      rw [e, wdW_sized hj1 (by omega)] at h5
      omega
    rw [bg_rest h1 h2 hs]
    cases hf : (tbl.find? fun r => decide (r.wd = W)) with
    | none => rfl
    | some r =>
      exfalso
      have hw : r.wd = W := by have := List.find?_some hf; simpa using this
      have key : ∀ r ∈ tbl, r.wd = pushW ∨ r.wd = dupW2 ∨ r.wd = swapW ∨ (r.op < 256 ∧ r.bh = 0 ∧ (ofP ((r.op : Nat) : Int)).map (fun o => (o.wd, o.bh)) = some (r.wd, 0)) := by decide +kernel
      rcases key r (List.mem_of_find?_eq_some hf) with h | h | h | ⟨ha, hb, hc⟩
      · exact h1 (hw.symm.trans h)
      · exact h3 (hw.symm.trans h)
      · exact h4 (hw.symm.trans h)
      · refine hn r.op ha ?_
        cases hof : ofP ((r.op : Nat) : Int) with
        | none => rw [hof] at hc; cases hc
        | some o =>
          rw [hof] at hc
          simp at hc
          exact ⟨o, hof, hc.1.trans hw, hc.2⟩
  · obtain ⟨ha, hb, hc⟩ := wdW_yes h5
    exact .inr (.inr (.inr (.inr (.inr ⟨_, ha, hb, hc⟩))))
def RSu (g : Nat) (w : World) (l : List Int) (q : (List Int × Nat × Int) × (List Int × Nat)) : Value → World → Prop := fun u w' => ∃ x n c i, u = .tuple #[.slice x n c, .int .i64 q.1.2.2] ∧ Ag w' x n c q.1.1 ∧ Rw g w' (rdC l i q.2.2) 57 ∧ (q.1.2.2 ≠ 0 → i = q.1.2.1) ∧ Touch g w w'
def RPu (w : World) (m k : Nat) : Value → World → Prop := fun u w' => ∃ x n c, u = .tuple #[.slice x n c, .bool (decide (m < 256 ^ k))] ∧ (m < 256 ^ k → Ag w' x n c (bek k m)) ∧ Bl w w'
end Go.Proofs.YtbjjboicfghldaaDoor

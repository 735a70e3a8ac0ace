/- The plain law beneath: what Sum tells of a Hash that has taken some bytes is the document's digest of them, whatever they are. -/
import Derived.Test.YtalhnnjpjaeakaaG31
import Derived.Test.YtalhnnjpjaeakaaG33
namespace Go.Proofs.Ytalhnnjpjaeakaa.Di
set_option maxRecDepth 100000
open Go.RowKit
set_option linter.unusedVariables false
theorem wd_congr (xs ys : List Int) (p q : Nat) : ∀ k, (∀ j, j < k → xs.getD (p + j) 0 = ys.getD (q + j) 0) → wd xs p k = wd ys q k
  | 0, _ => rfl
  | k + 1, h => by
    unfold wd
    rw [wd_congr xs ys p q k (fun j hj => h j (by omega)), h k (by omega)]
theorem wfold_a (bs : List Int) : ∀ k, k ≤ 8 → wfold bs k = ⟨wd bs 0 k, 0, 0, 0⟩
  | 0, _ => rfl
  | k + 1, h => by
    show wstep (wfold bs k) k (bs.getD k 0) = _
    rw [wfold_a bs k (by omega)]
    unfold wstep
    rw [if_pos (by omega)]
    show _ = S4.mk (or8 (wd bs 0 k) (bs.getD (0 + k) 0)) 0 0 0
    rw [Nat.zero_add]
theorem wfold_b (bs : List Int) : ∀ k, k ≤ 8 → wfold bs (8 + k) = ⟨wd bs 0 8, wd bs 8 k, 0, 0⟩
  | 0, _ => wfold_a bs 8 (by omega)
  | k + 1, h => by
    show wstep (wfold bs (8 + k)) (8 + k) (bs.getD (8 + k) 0) = _
    rw [wfold_b bs k (by omega)]
    unfold wstep
    rw [if_neg (by omega), if_pos (by omega)]
    rfl
theorem wfold_c (bs : List Int) : ∀ k, k ≤ 8 → wfold bs (16 + k) = ⟨wd bs 0 8, wd bs 8 8, wd bs 16 k, 0⟩
  | 0, _ => wfold_b bs 8 (by omega)
  | k + 1, h => by
    show wstep (wfold bs (16 + k)) (16 + k) (bs.getD (16 + k) 0) = _
    rw [wfold_c bs k (by omega)]
    unfold wstep
    rw [if_neg (by omega), if_neg (by omega), if_pos (by omega)]
    rfl
theorem wfold_d (bs : List Int) : ∀ k, k ≤ 8 → wfold bs (24 + k) = ⟨wd bs 0 8, wd bs 8 8, wd bs 16 8, wd bs 24 k⟩
  | 0, _ => wfold_c bs 8 (by omega)
  | k + 1, h => by
    show wstep (wfold bs (24 + k)) (24 + k) (bs.getD (24 + k) 0) = _
    rw [wfold_d bs k (by omega)]
    unfold wstep
    rw [if_neg (by omega), if_neg (by omega), if_neg (by omega)]
    rfl
theorem words_eq (bs : List Int) : words bs = ⟨wd bs 0 8, wd bs 8 8, wd bs 16 8, wd bs 24 8⟩ := wfold_d bs 8 (by omega)
theorem getD_piece (P : List Int) (p j : Nat) (hj : j < 32) : ((P.drop p).take 32).getD j 0 = P.getD (p + j) 0 := by
  simp [List.getD, hj]
theorem words_at (P : List Int) (p : Nat) : wordsAt P p = words ((P.drop p).take 32) := by
  rw [words_eq]
  unfold wordsAt
  rw [wd_congr P ((P.drop p).take 32) p 0 8 (fun j hj => by rw [getD_piece P p _ (by omega), Nat.zero_add]), wd_congr P ((P.drop p).take 32) (p + 8) 8 8 (fun j hj => by rw [getD_piece P p _ (by omega), Nat.add_assoc]),
    wd_congr P ((P.drop p).take 32) (p + 16) 16 8 (fun j hj => by rw [getD_piece P p _ (by omega), Nat.add_assoc]), wd_congr P ((P.drop p).take 32) (p + 24) 24 8 (fun j hj => by rw [getD_piece P p _ (by omega), Nat.add_assoc])]
theorem len_step (n : Int) (c : Int) (h0 : 0 ≤ n) (h1 : n < 18446744073709551616) (hc : 0 < c) : (n / (c * 256) * 256 + n / c % 256) % 18446744073709551616 = n / c := by
  have e : n / (c * 256) = n / c / 256 := (Int.ediv_ediv_of_nonneg (by omega)).symm
  have h2 : 0 ≤ n / c := Int.ediv_nonneg h0 (by omega)
  have h3 : n / c ≤ n := Int.ediv_le_self _ h0
  rw [e]
  omega
/-- The eight bytes of a length are that length. -/
theorem wd_len (L : List Int) (n : Nat) (hn : n < 18446744073709551616) (h : ∀ k, k < 8 → L.getD (24 + k) 0 = (n : Int) / 2 ^ (56 - 8 * k) % 256) : wd L 24 8 = n := by
  have hi0 : (0 : Int) ≤ n := by omega
  have hi1 : (n : Int) < 18446744073709551616 := by omega
  have st : ∀ k (c : Int), k < 8 → (2 : Int) ^ (56 - 8 * k) = c → 0 < c → wd L 24 k = (n : Int) / (c * 256) → wd L 24 (k + 1) = (n : Int) / c := by
    intro k c hk he hc hw
    show or8 (wd L 24 k) (L.getD (24 + k) 0) = _
    rw [hw, h k hk, he]
    unfold or8 wr
    rw [IntKind.wrap_u64]
    exact len_step n c hi0 hi1 hc
  have w0 : wd L 24 0 = (n : Int) / (72057594037927936 * 256) := by
    show (0 : Int) = _
    omega
  have w1 := st 0 72057594037927936 (by omega) (by decide) (by omega) w0
  have w2 := st 1 281474976710656 (by omega) (by decide) (by omega) w1
  have w3 := st 2 1099511627776 (by omega) (by decide) (by omega) w2
  have w4 := st 3 4294967296 (by omega) (by decide) (by omega) w3
  have w5 := st 4 16777216 (by omega) (by decide) (by omega) w4
  have w6 := st 5 65536 (by omega) (by decide) (by omega) w5
  have w7 := st 6 256 (by omega) (by decide) (by omega) w6
  have w8 := st 7 1 (by omega) (by decide) (by omega) w7
  rw [w8]
  omega
theorem getD_left (xs ys : List Int) (j : Nat) (h : j < xs.length) : (xs ++ ys).getD j 0 = xs.getD j 0 := by
  rw [List.getD, List.getD, List.getElem?_append_left h]
theorem getD_right (xs ys : List Int) (j : Nat) (h : xs.length ≤ j) : (xs ++ ys).getD j 0 = ys.getD (j - xs.length) 0 := by
  rw [List.getD, List.getD, List.getElem?_append_right h]
theorem getD_zeros (m j : Nat) : (List.replicate m (0 : Int)).getD j 0 = 0 := by
  rw [List.getD, List.getElem?_replicate]
  split <;> rfl
theorem padded_in (all : List Int) (j : Nat) (h : j < all.length) : (padded all).getD j 0 = all.getD j 0 := by
  unfold padded
  rw [getD_left _ _ _ (by simp; omega), getD_left _ _ _ (by simp; omega), getD_left _ _ _ h]
theorem padded_mark (all : List Int) : (padded all).getD all.length 0 = 128 := by
  unfold padded
  rw [getD_left _ _ _ (by simp <;> omega), getD_left _ _ _ (by simp), getD_right _ _ _ (Nat.le_refl _), Nat.sub_self]
  rfl
theorem padded_zero (all : List Int) (j : Nat) (h1 : all.length < j) (h2 : j < all.length + 1 + zc all.length) : (padded all).getD j 0 = 0 := by
  unfold padded
  rw [getD_left _ _ _ (by simp; omega), getD_right _ _ _ (by simp; omega), getD_zeros]
theorem padded_tail (all : List Int) (k : Nat) (hk : k < 8) : (padded all).getD (all.length + 1 + zc all.length + k) 0 = (all.length : Int) / 2 ^ (56 - 8 * k) % 256 := by
  unfold padded
  rw [getD_right _ _ _ (by simp; omega)]
  have e : all.length + 1 + zc all.length + k - (all ++ [128] ++ List.replicate (zc all.length) 0).length = k := by
    rw [List.length_append, List.length_append, List.length_replicate]
    show all.length + 1 + zc all.length + k - (all.length + 1 + zc all.length) = k
    omega
  rw [e]
  simp [len8, List.getD, hk]
theorem lastOf_at (f : Nat) (tl : List Int) (hl : tl.length = 32) (hf : f < 32) (j : Nat) (hj : j < 32) : (lastOf f tl).getD j 0 = if j < f then tl.getD j 0 else if j = f then 128 else 0 := by
  unfold lastOf
  rw [List.getD, List.getElem?_set]
  have e : (List.take f tl).length = f := by rw [List.length_take]; omega
  by_cases h1 : f = j
  · subst h1
    rw [if_pos rfl, if_pos (by rw [List.length_append, e, List.length_replicate]; omega), if_neg (by omega), if_pos rfl]
    rfl
  · rw [if_neg h1, ← List.getD]
    by_cases h2 : j < f
    · rw [if_pos h2, getD_left _ _ _ (by omega), List.getD, List.getD, List.getElem?_take_of_lt h2]
    · rw [if_neg h2, if_neg (fun h => h1 h.symm), getD_right _ _ _ (by omega), getD_zeros]
theorem stOf_stP (P : List Int) : ∀ i, stOf P i = stP P i
  | 0 => rfl
  | i + 1 => by
    show mix (stOf P i) (wordsAt P (32 * i)) = mix (stP P i) (words ((P.drop (32 * i)).take 32))
    rw [stOf_stP P i, words_at]
/-- What Sum tells of a Hash that has taken 'all' is the document's digest of 'all'. -/
theorem fin_ref (all : List Int) (s : S4) (tl : List Int) (n : Nat) (h : Inv all s tl n) (hn : n < 18446744073709551616) : finS s tl n = stOf (padded all) ((padded all).length / 32) := by
  have hnl := h.hn
  have hl := h.hl
  obtain ⟨q, hq⟩ : ∃ q, n / 32 = q := ⟨_, rfl⟩
  obtain ⟨f, hf⟩ : ∃ f, n % 32 = f := ⟨_, rfl⟩
  have hnq : n = 32 * q + f := by omega
  have hf32 : f < 32 := by omega
  have hz : zc n = (55 - f) % 32 := by unfold zc; rw [hf]
  have htk : ∀ j, j < f → (padded all).getD (32 * q + j) 0 = tl.getD j 0 := by
    intro j hj
    rw [padded_in all _ (by omega)]
    have e := h.ht
    rw [hf, hq] at e
    have e2 : (tl.take f).getD j 0 = (all.drop (32 * q)).getD j 0 := by rw [e]
    rw [List.getD, List.getD, List.getElem?_take_of_lt hj, List.getElem?_drop] at e2
    rw [List.getD, List.getD]
    exact e2.symm
  have hmk : (padded all).getD (32 * q + f) 0 = 128 := by rw [← hnq, hnl]; exact padded_mark all
  have hS : stP (padded all) q = s := by
    rw [h.hs, hq]
    unfold padded
    rw [List.append_assoc, List.append_assoc]
    exact stP_append all _ q (by omega)
  have hpl := padded_length all
  rw [← hnl] at hpl
  rw [stOf_stP]
  unfold finS
  rw [hf]
  by_cases h24 : f < 24
  · rw [if_pos h24]
    have hzc : zc n = 23 - f := by rw [hz]; omega
    rw [show (padded all).length / 32 = q + 1 from by rw [hpl, hzc]; omega]
    show _ = mix (stP (padded all) q) (words (((padded all).drop (32 * q)).take 32))
    rw [hS]
    refine congrArg (mix s) ?_
    have hp : ∀ j, j < 24 → (lastOf f tl).getD j 0 = (((padded all).drop (32 * q)).take 32).getD j 0 := by
      intro j hj
      rw [getD_piece _ _ _ (by omega), lastOf_at f tl hl hf32 j (by omega)]
      by_cases h1 : j < f
      · rw [if_pos h1, htk j h1]
      · rw [if_neg h1]
        by_cases h2 : j = f
        · rw [if_pos h2, h2, hmk]
        · rw [if_neg h2, padded_zero all _ (by omega) (by rw [← hnl, hzc]; omega)]
    have hd : wd (((padded all).drop (32 * q)).take 32) 24 8 = n := by
      refine wd_len _ n hn fun k hk => ?_
      rw [getD_piece _ _ _ (by omega)]
      have e := padded_tail all k hk
      rw [← hnl, hzc] at e
      rw [show 32 * q + (24 + k) = n + 1 + (23 - f) + k from by omega]
      exact e
    rw [words_eq, words_eq (((padded all).drop (32 * q)).take 32), hd]
    rw [wd_congr (lastOf f tl) _ 0 0 8 (fun j hj => hp (0 + j) (by omega)), wd_congr (lastOf f tl) _ 8 8 8 (fun j hj => hp (8 + j) (by omega)), wd_congr (lastOf f tl) _ 16 16 8 (fun j hj => hp (16 + j) (by omega))]
  · rw [if_neg h24]
    have hzc : zc n = 55 - f := by rw [hz]; omega
    rw [show (padded all).length / 32 = q + 1 + 1 from by rw [hpl, hzc]; omega]
    show _ = mix (mix (stP (padded all) q) (words (((padded all).drop (32 * q)).take 32))) (words (((padded all).drop (32 * (q + 1))).take 32))
    rw [hS]
    have hp : ∀ j, j < 32 → (lastOf f tl).getD j 0 = (((padded all).drop (32 * q)).take 32).getD j 0 := by
      intro j hj
      rw [getD_piece _ _ _ hj, lastOf_at f tl hl hf32 j hj]
      by_cases h1 : j < f
      · rw [if_pos h1, htk j h1]
      · rw [if_neg h1]
        by_cases h2 : j = f
        · rw [if_pos h2, h2, hmk]
        · rw [if_neg h2, padded_zero all _ (by omega) (by rw [← hnl, hzc]; omega)]
    have e1 : words (lastOf f tl) = words (((padded all).drop (32 * q)).take 32) := by
      rw [words_eq, words_eq (((padded all).drop (32 * q)).take 32)]
      rw [wd_congr (lastOf f tl) _ 0 0 8 (fun j hj => hp (0 + j) (by omega)), wd_congr (lastOf f tl) _ 8 8 8 (fun j hj => hp (8 + j) (by omega)), wd_congr (lastOf f tl) _ 16 16 8 (fun j hj => hp (16 + j) (by omega)), wd_congr (lastOf f tl) _ 24 24 8 (fun j hj => hp (24 + j) (by omega))]
    rw [e1]
    refine congrArg (mix _) ?_
    have hp2 : ∀ j, j < 24 → (List.replicate 32 (0 : Int)).getD j 0 = (((padded all).drop (32 * (q + 1))).take 32).getD j 0 := by
      intro j hj
      rw [getD_piece _ _ _ (by omega), getD_zeros, padded_zero all _ (by omega) (by rw [← hnl, hzc]; omega)]
    have hd : wd (((padded all).drop (32 * (q + 1))).take 32) 24 8 = n := by
      refine wd_len _ n hn fun k hk => ?_
      rw [getD_piece _ _ _ (by omega)]
      have e := padded_tail all k hk
      rw [← hnl, hzc] at e
      rw [show 32 * (q + 1) + (24 + k) = n + 1 + (55 - f) + k from by omega]
      exact e
    rw [words_eq, words_eq (((padded all).drop (32 * (q + 1))).take 32), hd]
    rw [wd_congr (List.replicate 32 0) _ 0 0 8 (fun j hj => hp2 (0 + j) (by omega)), wd_congr (List.replicate 32 0) _ 8 8 8 (fun j hj => hp2 (8 + j) (by omega)), wd_congr (List.replicate 32 0) _ 16 16 8 (fun j hj => hp2 (16 + j) (by omega))]
end Go.Proofs.Ytalhnnjpjaeakaa.Di
/- What digest.Of answers: the document's digest, for all bytes; and Write of whatever bytes, Sum of whatever Hash, in the document's words. -/
namespace Go.Proofs.Ytalhnnjpjaeakaa.Di
set_option maxRecDepth 100000
open Go.RowKit
set_option linter.unusedVariables false
set_option maxHeartbeats 400000 in
theorem write_none (g : Nat) (a : Option Addr) (cap : Nat) (s : S4) (tl : List Int) (n : Nat) (w : World) (hl : tl.length = 32) (hn : n < 9223372036854775808) (hg : w.heap[g]? = some (.cells (HC s tl n) 70)) :
    Calls Try.prog 25 #[.pointer (some ⟨g, 0, none⟩), .slice a 0 cap] w fun e w' => e = .returned (.tuple #[]) ∧ w' = w.setCell ⟨g, 36, none⟩ (.int .i64 n) := by
  obtain ⟨xa, xb, xc, xd⟩ := s
  obtain ⟨c0, c1, c2, c3, c36, cf⟩ := cellsH hg hl
  clear hg
  obtain ⟨f, hff⟩ : ∃ f, n % 32 = f := ⟨_, rfl⟩
  have hmod : (n : Int) % 32 = (f : Int) := by omega
  have hf2 : f < 32 := by omega
  have hf3 : (f : Int) < 32 := by omega
  have hf4 : (f : Int) ≤ 32 := by omega
  clear hff
  by_cases hf : f = 0
  · subst hf
    go_enter Try.func25, Try.ntmps25
    go_wp2_with fail
    refine wp_loop_rounds 1 ?_
    rw [rounds_succ]
    go_wp2_with (first | (refine wpList_copy_nothing rfl _ _ 23 23 rfl 5 Try.underlying23 (by kernel_rfl) _ _ _ _ _ _ rfl rfl (by simp) ?_))
    go_end0
    exact ⟨rfl, rfl⟩
  · have hf0 : (0 : Int) < (f : Int) := by omega
    go_enter Try.func25, Try.ntmps25
    go_wp2_with (first | (refine wpList_copy_nothing rfl _ _ 23 23 rfl 5 Try.underlying23 (by kernel_rfl) _ _ _ _ _ _ rfl rfl (by simp) ?_))
    go_returns
    exact ⟨rfl, rfl⟩
/-- Bytes that are handed to Write: none, or a row of cells that is no part of block g. -/
def In2 (g : Nat) (w : World) (a : Option Addr) (len cap : Nat) (bs : List Int) : Prop :=
  (len = 0 ∧ bs = []) ∨ ∃ gb off, a = some ⟨gb, off, none⟩ ∧ bs.length = len ∧ 0 < len ∧ len ≤ cap ∧ cap ≤ maxLen ∧ gb ≠ g ∧ ∀ j, j < bs.length → w.cell? ⟨gb, off + j, none⟩ = some (.int .u8 (bs.getD j 0))
theorem write_any (g : Nat) (a : Option Addr) (len cap : Nat) (s : S4) (tl : List Int) (n : Nat) (all bs : List Int) (w : World) (hinv : Inv all s tl n) (hin : In2 g w a len cap bs) (hsum : n + len < 9223372036854775808)
    (hb : ∀ x ∈ bs, 0 ≤ x ∧ x < 256) (hg : w.heap[g]? = some (.cells (HC s tl n) 70)) :
    Calls Try.prog 25 #[.pointer (some ⟨g, 0, none⟩), .slice a len cap] w fun e w' => e = .returned (.tuple #[]) ∧ (∃ s' tl', Inv (all ++ bs) s' tl' (n + len) ∧ w'.heap[g]? = some (.cells (HC s' tl' (n + len)) 70)) ∧ Touch g w w' := by
  rcases hin with ⟨rfl, rfl⟩ | ⟨gb, off, rfl, h1, h2, h3, h4, h5, h6⟩
  · refine (write_none g a cap s tl n w hinv.hl (by omega) hg).mono ?_
    rintro e w' ⟨rfl, rfl⟩
    refine ⟨rfl, ⟨s, tl, by rw [List.append_nil]; exact hinv, ?_⟩, Touch.setCell _ _ _ _⟩
    have := heap_setCell_same w g 36 _ 70 (.int .i64 n) hg
    rw [HC_taken_set _ _ _ _ hinv.hl] at this
    exact this
  · obtain ⟨xa, xb, xc, xd⟩ := s
    exact write_some g gb off len cap xa xb xc xd tl n all bs w hinv h1 h2 h3 h4 hsum hb h5 hg h6
/-- The document's digest of some bytes. -/
def dref (bs : List Int) : List Int := dig (stOf (padded bs) ((padded bs).length / 32))
theorem dref_len (bs : List Int) : (dref bs).length = 32 := by simp [dref, dig]
theorem inv_new : Inv [] s0 (List.replicate 32 0) 0 := ⟨rfl, rfl, List.length_replicate, rfl, zero_bounds⟩
theorem sum_ref (g : Nat) (s : S4) (tl : List Int) (n : Nat) (all : List Int) (w : World) (h : Inv all s tl n) (hn : n < 9223372036854775808) (hg : w.heap[g]? = some (.cells (HC s tl n) 70)) :
    Calls Try.prog 26 #[.pointer (some ⟨g, 0, none⟩)] w fun e w' => e = .returned (.agg (B8 (dref all))) ∧ Below w.heap.size w w' := by
  obtain ⟨xa, xb, xc, xd⟩ := s
  have := sum_any g xa xb xc xd tl n h.hl h.hb hn w hg
  rw [fin_ref all _ tl n h (by omega)] at this
  exact this
theorem In2.mono {g : Nat} {w w' : World} {a : Option Addr} {len cap : Nat} {bs : List Int} (h : In2 g w a len cap bs) (hb : Below w.heap.size w w') : In2 g w' a len cap bs := by
  rcases h with h | ⟨gb, off, h1, h2, h3, h4, h5, h6, h7⟩
  · exact .inl h
  · exact .inr ⟨gb, off, h1, h2, h3, h4, h5, h6, fun j hj => (hb.cell (p := ⟨gb, off + j, none⟩) (block_lt_of_cell (h7 j hj))).trans (h7 j hj)⟩
/-- Bytes in memory, wherever. -/
def In0 (w : World) (a : Option Addr) (len cap : Nat) (bs : List Int) : Prop :=
  (len = 0 ∧ bs = []) ∨ ∃ gb off, a = some ⟨gb, off, none⟩ ∧ bs.length = len ∧ 0 < len ∧ len ≤ cap ∧ cap ≤ maxLen ∧ ∀ j, j < bs.length → w.cell? ⟨gb, off + j, none⟩ = some (.int .u8 (bs.getD j 0))
theorem In0.at {w w' : World} {a : Option Addr} {len cap : Nat} {bs : List Int} {B : Nat} (h : In0 w a len cap bs) (hB : w.heap.size ≤ B) (hb : Below w.heap.size w w') (g : Nat) (hg : B ≤ g) : In2 g w' a len cap bs := by
  rcases h with h | ⟨gb, off, h1, h2, h3, h4, h5, h7⟩
  · exact .inl h
  · have l : gb < w.heap.size := block_lt_of_cell (h7 0 (by omega))
    exact .inr ⟨gb, off, h1, h2, h3, h4, h5, by omega, fun j hj => (hb.cell (p := ⟨gb, off + j, none⟩) l).trans (h7 j hj)⟩
theorem Touch.below {g N : Nat} {w0 w w' : World} (h : Below N w0 w) (t : Touch g w w') (hN : N ≤ g) (hs : N ≤ w.heap.size) : Below N w0 w' :=
  h.trans ⟨t.os, t.tape, t.output, t.size, fun k hk => t.block k (by omega) (by omega)⟩
set_option maxHeartbeats 1000000 in
theorem of_any (a : Option Addr) (len cap : Nat) (bs : List Int) (w : World) (hin : In0 w a len cap bs) (hlen : len = bs.length) (hb : ∀ x ∈ bs, 0 ≤ x ∧ x < 256) (hmax : len < 9223372036854775808) :
    Calls Try.prog 18 #[.slice a len cap] w fun e w' => e = .returned (.agg (B8 (dref bs))) ∧ Below w.heap.size w w' := by
  have HIN := Hid.mk hin
  have HB := Hid.mk hb
  have HL := Hid.mk hlen
  clear hin hb hlen
  go_enter Try.func18, Try.ntmps18
  go_wp2_with fail
  refine (start_any _).mono ?_
  rintro e w1 ⟨⟨xa, xb, xc, xd, rfl, H⟩, hb1⟩
  have HI : Hid ((Try.prog.info? 70).map (·.size) = some (HC ⟨xa, xb, xc, xd⟩ (List.replicate 32 0) 0).size) := by unfold Hid; rw [HC_size]; kernel_rfl
  go_wp2_with (first | refine wpList_store_row rfl 70 _ _ rfl _ (HC ⟨xa, xb, xc, xd⟩ (List.replicate 32 0) 0) rfl (by rw [HC_zero]; rfl) 70 _ (heap_alloc_new w1 _) HI.out (by rw [HC_size]; rfl) (HC_one _ _ _) ?_)
  have hN : w1.heap[w.heap.size]? = some (.cells (B8 (List.replicate 32 0)) 38) := Below.row hb1 (heap_alloc_new w _)
  have l0 := lt_of_get hN
  have hb2 : Below w.heap.size w w1 := ((Below.refl _ _).alloc (Nat.le_refl _) _).trans (hb1.mono (by simp))
  clear hb1
  refine gen_w (p := fun v => Calls _ _ _ v _) (q := fun v => OfH w.heap.size w1.heap.size w v ⟨xa, xb, xc, xd⟩ (List.replicate 32 0) 0) ⟨?_, ?_, ?_, l0⟩ ?_
  · rw [setRow_other _ _ _ _ (by omega), Below.heap_alloc _ _ _ l0]; exact hN
  · exact setRow_heap _ _ _ _ _ _ (heap_alloc_new w1 _)
  · exact Below.setRow (hb2.alloc (by omega) _) (by omega) _
  clear hN hb2
  intro v F
  have hinv : Inv [] ⟨xa, xb, xc, xd⟩ (List.replicate 32 0) 0 := by rw [H.out]; exact inv_new
  refine (write_any _ a len cap _ _ 0 [] bs v hinv (HIN.out.at (Nat.le_refl _) F.bel _ (Nat.le_of_lt l0)) (by omega) HB.out F.hg).mono ?_
  rintro e v2 ⟨rfl, ⟨s2, tl2, hinv2, hg2⟩, t2⟩
  rw [List.nil_append, Nat.zero_add] at hinv2
  rw [Nat.zero_add] at hg2
  have h02 : v2.heap[w.heap.size]? = some (.cells (B8 (List.replicate 32 0)) 38) := (t2.block _ (lt_of_get F.h0) (by omega)).trans F.h0
  have hb3 := Touch.below F.bel t2 (Nat.le_of_lt l0) (Nat.le_of_lt (lt_of_get F.h0))
  clear F t2 HI hinv
  have HV := Hid.mk (And.intro hinv2 hg2)
  have H02 := Hid.mk h02
  clear hinv2 hg2 h02 H
  go_wp2_with fail
  refine (sum_ref _ s2 tl2 len bs v2 HV.out.1 hmax HV.out.2).mono ?_
  rintro e v3 ⟨rfl, hb4⟩
  have h0 := Below.row hb4 H02.out
  have hbel := hb3.trans (hb4.mono (by have := lt_of_get H02.out; omega))
  have HI2 : Hid ((Try.prog.info? 38).map (·.size) = some (B8 (dref bs)).size) := by unfold Hid; rw [B8_size, dref_len]; kernel_rfl
  have hdl := dref_len bs
  have HH := Hid.mk h0
  clear h0 hb4 HV H02
  generalize hds : dref bs = ds at HI2 hdl ⊢
  have HD := Hid.mk hds
  clear hds
  go_wp2_with (first | refine wpList_store_row rfl 38 _ _ rfl _ (B8 ds) rfl rfl 38 _ HH.out HI2.out (by rw [B8_size, B8_size, hdl, List.length_replicate]) (B8_one _) ?_)
  refine bodyPost_ret (results_cell_row Try.results18 _ _ w.heap.size 38 (B8 ds) (0, 0) _ rfl (setRow_heap _ _ _ _ _ _ HH.out) Try.underlying38 rfl HI2.out) rfl ?_
  exact ⟨by rw [HD.out], Below.setRow hbel (Nat.le_refl _) _⟩
end Go.Proofs.Ytalhnnjpjaeakaa.Di

/- The plain law beneath: what Sum tells of a Hash that has taken some bytes is the document's digest of them, whatever they are. -/
import Derived.Test.YtdkpilgelgjieaaGreatG13
import Derived.Test.YtdkpilgelgjieaaGreatG12
import Derived.Test.YtdkpilgelgjieaaGreatG02
import Derived.Test.YtdkpilgelgjieaaGreatG11
set_option linter.unusedVariables false
set_option maxRecDepth 100000
namespace Go.Proofs.YtdkpilgelgjieaaGreat.Di
open Go.RowKit
theorem Zbp (xs ys : List Int) (p q : Nat) : ∀ k, (∀ j, j < k -> xs.getD (p + j) 0 = ys.getD (q + j) 0) -> wd xs p k = wd ys q k
 | 0, _ => rfl
 | k + 1, h => by
  unfold wd
  rw [Zbp xs ys p q k (fun j hj => h j (by omega)), h k (by omega)]
theorem Zq7 (bs : List Int) : ∀ k, k <= 8 -> wfold bs k = ⟨wd bs 0 k, 0, 0, 0⟩
 | 0, _ => rfl
 | k + 1, h => by
  show wstep (wfold bs k) k (bs.getD k 0) = _
  rw [Zq7 bs k (by omega)]
  unfold wstep
  rw [if_pos (by omega)]
  show _ = S4.mk (or8 (wd bs 0 k) (bs.getD (0 + k) 0)) 0 0 0
  rw [Nat.zero_add]
theorem Zq6 (bs : List Int) : ∀ k, k <= 8 -> wfold bs (8 + k) = ⟨wd bs 0 8, wd bs 8 k, 0, 0⟩
 | 0, _ => Zq7 bs 8 (by omega)
 | k + 1, h => by
  show wstep (wfold bs (8 + k)) (8 + k) (bs.getD (8 + k) 0) = _
  rw [Zq6 bs k (by omega)]
  unfold wstep
  rw [if_neg (by omega), if_pos (by omega)]
  rfl
theorem Zq5 (bs : List Int) : ∀ k, k <= 8 -> wfold bs (16 + k) = ⟨wd bs 0 8, wd bs 8 8, wd bs 16 k, 0⟩
 | 0, _ => Zq6 bs 8 (by omega)
 | k + 1, h => by
  show wstep (wfold bs (16 + k)) (16 + k) (bs.getD (16 + k) 0) = _
  rw [Zq5 bs k (by omega)]
  unfold wstep
  rw [if_neg (by omega), if_neg (by omega), if_pos (by omega)]
  rfl
theorem Zq4 (bs : List Int) : ∀ k, k <= 8 -> wfold bs (24 + k) = ⟨wd bs 0 8, wd bs 8 8, wd bs 16 8, wd bs 24 k⟩
 | 0, _ => Zq5 bs 8 (by omega)
 | k + 1, h => by
  show wstep (wfold bs (24 + k)) (24 + k) (bs.getD (24 + k) 0) = _
  rw [Zq4 bs k (by omega)]
  unfold wstep
  rw [if_neg (by omega), if_neg (by omega), if_neg (by omega)]
  rfl
theorem Zdx (bs : List Int) : words bs = ⟨wd bs 0 8, wd bs 8 8, wd bs 16 8, wd bs 24 8⟩ := Zq4 bs 8 (by omega)
theorem Zb5 (P : List Int) (p j : Nat) (hj : j < 32) : ((P.drop p).take 32).getD j 0 = P.getD (p + j) 0 := by
 simp [List.getD, hj]
theorem Zuc (P : List Int) (p : Nat) : wordsAt P p = words ((P.drop p).take 32) := by
 rw [Zdx]
 unfold wordsAt
 rw [Zbp P ((P.drop p).take 32) p 0 8 (fun j hj => by rw [Zb5 P p _ (by omega), Nat.zero_add]), Zbp P ((P.drop p).take 32) (p + 8) 8 8 (fun j hj => by rw [Zb5 P p _ (by omega), Nat.add_assoc]),
  Zbp P ((P.drop p).take 32) (p + 16) 16 8 (fun j hj => by rw [Zb5 P p _ (by omega), Nat.add_assoc]), Zbp P ((P.drop p).take 32) (p + 24) 24 8 (fun j hj => by rw [Zb5 P p _ (by omega), Nat.add_assoc])]
theorem Zu9 (n : Int) (c : Int) (h0 : 0 <= n) (h1 : n < 18446744073709551616) (hc : 0 < c) : (n / (c * 256) * 256 + n / c % 256) % 18446744073709551616 = n / c := by
 have e : n / (c * 256) = n / c / 256 := (Int.ediv_ediv_of_nonneg (by omega)).symm
 have h2 : 0 <= n / c := Int.ediv_nonneg h0 (by omega)
 have h3 : n / c <= n := Int.ediv_le_self _ h0
 rw [e]
 omega
theorem Zv1 (L : List Int) (n : Nat) (hn : n < 18446744073709551616) (h : ∀ k, k < 8 -> L.getD (24 + k) 0 = (n : Int) / 2 ^ (56 - 8 * k) % 256) : wd L 24 8 = n := by
 have hi0 : (0 : Int) <= n := by omega
 have hi1 : (n : Int) < 18446744073709551616 := by omega
 have st : ∀ k (c : Int), k < 8 -> (2 : Int) ^ (56 - 8 * k) = c -> 0 < c -> wd L 24 k = (n : Int) / (c * 256) -> wd L 24 (k + 1) = (n : Int) / c := by
  intro k c hk he hc hw
  show or8 (wd L 24 k) (L.getD (24 + k) 0) = _
  rw [hw, h k hk, he]
  unfold or8 wr
  rw [IntKind.wrap_u64]
  exact Zu9 n c hi0 hi1 hc
 have w0 : wd L 24 0 = (n : Int) / (72057594037927936 * 256) := by
  show (0 : Int) = _
  omega
 have w1 := st 0 72057594037927936 (by omega) (by decide) (by omega) w0
 have w2 := st 1 281474976710656 (by omega) (by decide) (by omega) w1
 have w3 := st 2 1099511627776 (by omega) (by decide) (by omega) w2
 have w4 := st 3 4294967296 (by omega) (by decide) (by omega) w3
 have w5 := st 4 16777216 (by omega) (by decide) (by omega) w4
 have w6 := st 5 65536 (by omega) (by decide) (by omega) w5
 have w7 := st 6 256 (by omega) (by decide) (by omega) w6
 have w8 := st 7 1 (by omega) (by decide) (by omega) w7
 rw [w8]
 omega
theorem Zc6 (xs ys : List Int) (j : Nat) (h : j < xs.length) : (xs ++ ys).getD j 0 = xs.getD j 0 := by
 rw [List.getD, List.getD, List.getElem?_append_left h]
theorem Zeu (xs ys : List Int) (j : Nat) (h : xs.length <= j) : (xs ++ ys).getD j 0 = ys.getD (j - xs.length) 0 := by
 rw [List.getD, List.getD, List.getElem?_append_right h]
theorem Zgg (m j : Nat) : (List.replicate m (0 : Int)).getD j 0 = 0 := by
 rw [List.getD, List.getElem?_replicate]
 split <;> rfl
theorem Zr3 (all : List Int) (j : Nat) (h : j < all.length) : (padded all).getD j 0 = all.getD j 0 := by
 unfold padded
 rw [Zc6 _ _ _ (by simp; omega), Zc6 _ _ _ (by simp; omega), Zc6 _ _ _ h]
theorem Zng (all : List Int) : (padded all).getD all.length 0 = 128 := by
 unfold padded
 rw [Zc6 _ _ _ (by simp <;> omega), Zc6 _ _ _ (by simp), Zeu _ _ _ (Nat.le_refl _), Nat.sub_self]
 rfl
theorem Ze9 (all : List Int) (j : Nat) (h1 : all.length < j) (h2 : j < all.length + 1 + zc all.length) : (padded all).getD j 0 = 0 := by
 unfold padded
 rw [Zc6 _ _ _ (by simp; omega), Zeu _ _ _ (by simp; omega), Zgg]
theorem Zii (all : List Int) (k : Nat) (hk : k < 8) : (padded all).getD (all.length + 1 + zc all.length + k) 0 = (all.length : Int) / 2 ^ (56 - 8 * k) % 256 := by
 unfold padded
 rw [Zeu _ _ _ (by simp; omega)]
 have e : all.length + 1 + zc all.length + k - (all ++ [128] ++ List.replicate (zc all.length) 0).length = k := by
  rw [List.length_append, List.length_append, List.length_replicate]
  show all.length + 1 + zc all.length + k - (all.length + 1 + zc all.length) = k
  omega
 rw [e]
 simp [len8, List.getD, hk]
theorem Zma (f : Nat) (tl : List Int) (hl : tl.length = 32) (hf : f < 32) (j : Nat) (hj : j < 32) : (lastOf f tl).getD j 0 = if j < f then tl.getD j 0 else if j = f then 128 else 0 := by
 unfold lastOf
 rw [List.getD, List.getElem?_set]
 have e : (List.take f tl).length = f := by rw [List.length_take]; omega
 by_cases h1 : f = j
 ·subst h1
  rw [if_pos rfl, if_pos (by rw [List.length_append, e, List.length_replicate]; omega), if_neg (by omega), if_pos rfl]
  rfl
 ·rw [if_neg h1, <- List.getD]
  by_cases h2 : j < f
  ·rw [if_pos h2, Zc6 _ _ _ (by omega), List.getD, List.getD, List.getElem?_take_of_lt h2]
  ·rw [if_neg h2, if_neg (fun h => h1 h.symm), Zeu _ _ _ (by omega), Zgg]
theorem Zn7 (P : List Int) : ∀ i, stOf P i = stP P i
 | 0 => rfl
 | i + 1 => by
  show mix (stOf P i) (wordsAt P (32 * i)) = mix (stP P i) (words ((P.drop (32 * i)).take 32))
  rw [Zn7 P i, Zuc]
theorem Zyd (all : List Int) (s : S4) (tl : List Int) (n : Nat) (h : Inv all s tl n) (hn : n < 18446744073709551616) : finS s tl n = stOf (padded all) ((padded all).length / 32) := by
 have hnl := h.hn
 have hl := h.hl
 obtain ⟨q, hq⟩ : ∃ q, n / 32 = q := ⟨_, rfl⟩
 obtain ⟨f, hf⟩ : ∃ f, n % 32 = f := ⟨_, rfl⟩
 have hnq : n = 32 * q + f := by omega
 have hf32 : f < 32 := by omega
 have hz : zc n = (55 - f) % 32 := by unfold zc; rw [hf]
 have htk : ∀ j, j < f -> (padded all).getD (32 * q + j) 0 = tl.getD j 0 := by
  intro j hj
  rw [Zr3 all _ (by omega)]
  have e := h.ht
  rw [hf, hq] at e
  have e2 : (tl.take f).getD j 0 = (all.drop (32 * q)).getD j 0 := by rw [e]
  rw [List.getD, List.getD, List.getElem?_take_of_lt hj, List.getElem?_drop] at e2
  rw [List.getD, List.getD]
  exact e2.symm
 have hmk : (padded all).getD (32 * q + f) 0 = 128 := by rw [<- hnq, hnl]; exact Zng all
 have hS : stP (padded all) q = s := by
  rw [h.hs, hq]
  unfold padded
  rw [List.append_assoc, List.append_assoc]
  exact Zc0 all _ q (by omega)
 have hpl := Zd2 all
 rw [<- hnl] at hpl
 rw [Zn7]
 unfold finS
 rw [hf]
 by_cases h24 : f < 24
 ·rw [if_pos h24]
  have hzc : zc n = 23 - f := by rw [hz]; omega
  rw [show (padded all).length / 32 = q + 1 from by rw [hpl, hzc]; omega]
  show _ = mix (stP (padded all) q) (words (((padded all).drop (32 * q)).take 32))
  rw [hS]
  refine congrArg (mix s) ?_
  have hp : ∀ j, j < 24 -> (lastOf f tl).getD j 0 = (((padded all).drop (32 * q)).take 32).getD j 0 := by
   intro j hj
   rw [Zb5 _ _ _ (by omega), Zma f tl hl hf32 j (by omega)]
   by_cases h1 : j < f
   ·rw [if_pos h1, htk j h1]
   ·rw [if_neg h1]
    by_cases h2 : j = f
    ·rw [if_pos h2, h2, hmk]
    ·rw [if_neg h2, Ze9 all _ (by omega) (by rw [<- hnl, hzc]; omega)]
  have hd : wd (((padded all).drop (32 * q)).take 32) 24 8 = n := by
   refine Zv1 _ n hn fun k hk => ?_
   rw [Zb5 _ _ _ (by omega)]
   have e := Zii all k hk
   rw [<- hnl, hzc] at e
   rw [show 32 * q + (24 + k) = n + 1 + (23 - f) + k from by omega]
   exact e
  rw [Zdx, Zdx (((padded all).drop (32 * q)).take 32), hd]
  rw [Zbp (lastOf f tl) _ 0 0 8 (fun j hj => hp (0 + j) (by omega)), Zbp (lastOf f tl) _ 8 8 8 (fun j hj => hp (8 + j) (by omega)), Zbp (lastOf f tl) _ 16 16 8 (fun j hj => hp (16 + j) (by omega))]
 ·rw [if_neg h24]
  have hzc : zc n = 55 - f := by rw [hz]; omega
  rw [show (padded all).length / 32 = q + 1 + 1 from by rw [hpl, hzc]; omega]
  show _ = mix (mix (stP (padded all) q) (words (((padded all).drop (32 * q)).take 32))) (words (((padded all).drop (32 * (q + 1))).take 32))
  rw [hS]
  have hp : ∀ j, j < 32 -> (lastOf f tl).getD j 0 = (((padded all).drop (32 * q)).take 32).getD j 0 := by
   intro j hj
   rw [Zb5 _ _ _ hj, Zma f tl hl hf32 j hj]
   by_cases h1 : j < f
   ·rw [if_pos h1, htk j h1]
   ·rw [if_neg h1]
    by_cases h2 : j = f
    ·rw [if_pos h2, h2, hmk]
    ·rw [if_neg h2, Ze9 all _ (by omega) (by rw [<- hnl, hzc]; omega)]
  have e1 : words (lastOf f tl) = words (((padded all).drop (32 * q)).take 32) := by
   rw [Zdx, Zdx (((padded all).drop (32 * q)).take 32)]
   rw [Zbp (lastOf f tl) _ 0 0 8 (fun j hj => hp (0 + j) (by omega)), Zbp (lastOf f tl) _ 8 8 8 (fun j hj => hp (8 + j) (by omega)), Zbp (lastOf f tl) _ 16 16 8 (fun j hj => hp (16 + j) (by omega)), Zbp (lastOf f tl) _ 24 24 8 (fun j hj => hp (24 + j) (by omega))]
  rw [e1]
  refine congrArg (mix _) ?_
  have hp2 : ∀ j, j < 24 -> (List.replicate 32 (0 : Int)).getD j 0 = (((padded all).drop (32 * (q + 1))).take 32).getD j 0 := by
   intro j hj
   rw [Zb5 _ _ _ (by omega), Zgg, Ze9 all _ (by omega) (by rw [<- hnl, hzc]; omega)]
  have hd : wd (((padded all).drop (32 * (q + 1))).take 32) 24 8 = n := by
   refine Zv1 _ n hn fun k hk => ?_
   rw [Zb5 _ _ _ (by omega)]
   have e := Zii all k hk
   rw [<- hnl, hzc] at e
   rw [show 32 * (q + 1) + (24 + k) = n + 1 + (55 - f) + k from by omega]
   exact e
  rw [Zdx, Zdx (((padded all).drop (32 * (q + 1))).take 32), hd]
  rw [Zbp (List.replicate 32 0) _ 0 0 8 (fun j hj => hp2 (0 + j) (by omega)), Zbp (List.replicate 32 0) _ 8 8 8 (fun j hj => hp2 (8 + j) (by omega)), Zbp (List.replicate 32 0) _ 16 16 8 (fun j hj => hp2 (16 + j) (by omega))]
end Go.Proofs.YtdkpilgelgjieaaGreat.Di
namespace Go.Proofs.YtdkpilgelgjieaaGreat.Di
open Go.RowKit
set_option maxHeartbeats 400000 in
theorem Zpv (g : Nat) (a : Option Addr) (cap : Nat) (s : S4) (tl : List Int) (n : Nat) (w : World) (hl : tl.length = 32) (hn : n < 9223372036854775808) (hg : w.heap[g]? = some (.cells (HC s tl n) 99)) :
  Calls Tryz.prog 57 #[.pointer (some ⟨g, 0, none⟩), .slice a 0 cap] w fun e w' => e = .returned (.tuple #[]) /\ w' = w.setCell ⟨g, 36, none⟩ (.int .i64 n) := by
 obtain ⟨xa, xb, xc, xd⟩ := s
 obtain ⟨c0, c1, c2, c3, c36, cf⟩ := Zd8 hg hl
 clear hg
 obtain ⟨f, hff⟩ : ∃ f, n % 32 = f := ⟨_, rfl⟩
 have hmod : (n : Int) % 32 = (f : Int) := by omega
 have hf2 : f < 32 := by omega
 have hf3 : (f : Int) < 32 := by omega
 have hf4 : (f : Int) <= 32 := by omega
 clear hff
 by_cases hf : f = 0
 ·subst hf
  go_enter Tryz.func57, Tryz.ntmps57
  go_wp2_with fail
  refine wp_loop_rounds 1 ?_
  rw [rounds_succ]
  go_wp2_with (first | (refine wpList_copy_nothing rfl _ _ 32 32 rfl 5 Tryz.underlying32 (by kernel_rfl) _ _ _ _ _ _ rfl rfl (by simp) ?_))
  go_end0
  exact ⟨rfl, rfl⟩
 ·have hf0 : (0 : Int) < (f : Int) := by omega
  go_enter Tryz.func57, Tryz.ntmps57
  go_wp2_with (first | (refine wpList_copy_nothing rfl _ _ 32 32 rfl 5 Tryz.underlying32 (by kernel_rfl) _ _ _ _ _ _ rfl rfl (by simp) ?_))
  go_returns
  exact ⟨rfl, rfl⟩
def In2 (g : Nat) (w : World) (a : Option Addr) (len cap : Nat) (bs : List Int) : Prop :=
 (len = 0 /\ bs = []) \/ ∃ gb off, a = some ⟨gb, off, none⟩ /\ bs.length = len /\ 0 < len /\ len <= cap /\ cap <= maxLen /\ gb ≠ g /\ ∀ j, j < bs.length -> w.cell? ⟨gb, off + j, none⟩ = some (.int .u8 (bs.getD j 0))
theorem Zq1 (g : Nat) (a : Option Addr) (len cap : Nat) (s : S4) (tl : List Int) (n : Nat) (all bs : List Int) (w : World) (hinv : Inv all s tl n) (hin : In2 g w a len cap bs) (hsum : n + len < 9223372036854775808)
  (hb : ∀ x ∈ bs, 0 <= x /\ x < 256) (hg : w.heap[g]? = some (.cells (HC s tl n) 99)) :
  Calls Tryz.prog 57 #[.pointer (some ⟨g, 0, none⟩), .slice a len cap] w fun e w' => e = .returned (.tuple #[]) /\ (∃ s' tl', Inv (all ++ bs) s' tl' (n + len) /\ w'.heap[g]? = some (.cells (HC s' tl' (n + len)) 99)) /\ Touch g w w' := by
 rcases hin with ⟨rfl, rfl⟩ | ⟨gb, off, rfl, h1, h2, h3, h4, h5, h6⟩
 ·refine (Zpv g a cap s tl n w hinv.hl (by omega) hg).mono ?_
  rintro e w' ⟨rfl, rfl⟩
  refine ⟨rfl, ⟨s, tl, by rw [List.append_nil]; exact hinv, ?_⟩, Touch.setCell _ _ _ _⟩
  have := heap_setCell_same w g 36 _ 99 (.int .i64 n) hg
  rw [Zg3 _ _ _ _ hinv.hl] at this
  exact this
 ·obtain ⟨xa, xb, xc, xd⟩ := s
  exact Zpu g gb off len cap xa xb xc xd tl n all bs w hinv h1 h2 h3 h4 hsum hb h5 hg h6
def dref (bs : List Int) : List Int := dig (stOf (padded bs) ((padded bs).length / 32))
theorem dref_len (bs : List Int) : (dref bs).length = 32 := by simp [dref, dig]
theorem Zx6 : Inv [] s0 (List.replicate 32 0) 0 := ⟨rfl, rfl, List.length_replicate, rfl, Zht⟩
theorem Zw7 (g : Nat) (s : S4) (tl : List Int) (n : Nat) (all : List Int) (w : World) (h : Inv all s tl n) (hn : n < 9223372036854775808) (hg : w.heap[g]? = some (.cells (HC s tl n) 99)) :
  Calls Tryz.prog 58 #[.pointer (some ⟨g, 0, none⟩)] w fun e w' => e = .returned (.agg (B8 (dref all))) /\ Below w.heap.size w w' := by
 obtain ⟨xa, xb, xc, xd⟩ := s
 have := Zw8 g xa xb xc xd tl n h.hl h.hb hn w hg
 rw [Zyd all _ tl n h (by omega)] at this
 exact this
def In0 (w : World) (a : Option Addr) (len cap : Nat) (bs : List Int) : Prop :=
 (len = 0 /\ bs = []) \/ ∃ gb off, a = some ⟨gb, off, none⟩ /\ bs.length = len /\ 0 < len /\ len <= cap /\ cap <= maxLen /\ ∀ j, j < bs.length -> w.cell? ⟨gb, off + j, none⟩ = some (.int .u8 (bs.getD j 0))
theorem In0.at {w w' : World} {a : Option Addr} {len cap : Nat} {bs : List Int} {B : Nat} (h : In0 w a len cap bs) (hB : w.heap.size <= B) (hb : Below w.heap.size w w') (g : Nat) (hg : B <= g) : In2 g w' a len cap bs := by
 rcases h with h | ⟨gb, off, h1, h2, h3, h4, h5, h7⟩
 ·exact .inl h
 ·have l : gb < w.heap.size := block_lt_of_cell (h7 0 (by omega))
  exact .inr ⟨gb, off, h1, h2, h3, h4, h5, by omega, fun j hj => (hb.cell (p := ⟨gb, off + j, none⟩) l).trans (h7 j hj)⟩
theorem Touch.below {g N : Nat} {w0 w w' : World} (h : Below N w0 w) (t : Touch g w w') (hN : N <= g) (hs : N <= w.heap.size) : Below N w0 w' :=
 h.trans ⟨t.os, t.tape, t.output, t.size, fun k hk => t.block k (by omega) (by omega)⟩
set_option maxHeartbeats 1000000 in
theorem of_any (a : Option Addr) (len cap : Nat) (bs : List Int) (w : World) (hin : In0 w a len cap bs) (hlen : len = bs.length) (hb : ∀ x ∈ bs, 0 <= x /\ x < 256) (hmax : len < 9223372036854775808) :
  Calls Tryz.prog 34 #[.slice a len cap] w fun e w' => e = .returned (.agg (B8 (dref bs))) /\ Below w.heap.size w w' := by
 have HIN := Hid.mk hin
 have HB := Hid.mk hb
 have HL := Hid.mk hlen
 clear hin hb hlen
 go_enter Tryz.func34, Tryz.ntmps34
 go_wp2_with fail
 refine (Zrf _).mono ?_
 rintro e w1 ⟨⟨xa, xb, xc, xd, rfl, H⟩, hb1⟩
 have HI : Hid ((Tryz.prog.info? 99).map (·.size) = some (HC ⟨xa, xb, xc, xd⟩ (List.replicate 32 0) 0).size) := by unfold Hid; rw [Znz]; kernel_rfl
 go_wp2_with (first | refine wpList_store_row rfl 99 _ _ rfl _ (HC ⟨xa, xb, xc, xd⟩ (List.replicate 32 0) 0) rfl (by rw [Zyv]; rfl) 99 _ (heap_alloc_new w1 _) HI.out (by rw [Znz]; rfl) (Z0f _ _ _) ?_)
 have hN : w1.heap[w.heap.size]? = some (.cells (B8 (List.replicate 32 0)) 24) := Below.row hb1 (heap_alloc_new w _)
 have l0 := lt_of_get hN
 have hb2 : Below w.heap.size w w1 := ((Below.refl _ _).alloc (Nat.le_refl _) _).trans (hb1.mono (by simp))
 clear hb1
 refine gen_w (p := fun v => Calls _ _ _ v _) (q := fun v => OfH w.heap.size w1.heap.size w v ⟨xa, xb, xc, xd⟩ (List.replicate 32 0) 0) ⟨?_, ?_, ?_, l0⟩ ?_
 ·rw [setRow_other _ _ _ _ (by omega), Below.heap_alloc _ _ _ l0]; exact hN
 ·exact setRow_heap _ _ _ _ _ _ (heap_alloc_new w1 _)
 ·exact Below.setRow (hb2.alloc (by omega) _) (by omega) _
 clear hN hb2
 intro v F
 have hinv : Inv [] ⟨xa, xb, xc, xd⟩ (List.replicate 32 0) 0 := by rw [H.out]; exact Zx6
 refine (Zq1 _ a len cap _ _ 0 [] bs v hinv (HIN.out.at (Nat.le_refl _) F.bel _ (Nat.le_of_lt l0)) (by omega) HB.out F.hg).mono ?_
 rintro e v2 ⟨rfl, ⟨s2, tl2, hinv2, hg2⟩, t2⟩
 rw [List.nil_append, Nat.zero_add] at hinv2
 rw [Nat.zero_add] at hg2
 have h02 : v2.heap[w.heap.size]? = some (.cells (B8 (List.replicate 32 0)) 24) := (t2.block _ (lt_of_get F.h0) (by omega)).trans F.h0
 have hb3 := Touch.below F.bel t2 (Nat.le_of_lt l0) (Nat.le_of_lt (lt_of_get F.h0))
 clear F t2 HI hinv
 have HV := Hid.mk (And.intro hinv2 hg2)
 have H02 := Hid.mk h02
 clear hinv2 hg2 h02 H
 go_wp2_with fail
 refine (Zw7 _ s2 tl2 len bs v2 HV.out.1 hmax HV.out.2).mono ?_
 rintro e v3 ⟨rfl, hb4⟩
 have h0 := Below.row hb4 H02.out
 have hbel := hb3.trans (hb4.mono (by have := lt_of_get H02.out; omega))
 have HI2 : Hid ((Tryz.prog.info? 24).map (·.size) = some (B8 (dref bs)).size) := by unfold Hid; rw [B8_size, dref_len]; kernel_rfl
 have hdl := dref_len bs
 have HH := Hid.mk h0
 clear h0 hb4 HV H02
 generalize hds : dref bs = ds at HI2 hdl ⊢
 have HD := Hid.mk hds
 clear hds
 go_wp2_with (first | refine wpList_store_row rfl 24 _ _ rfl _ (B8 ds) rfl rfl 24 _ HH.out HI2.out (by rw [B8_size, B8_size, hdl, List.length_replicate]) (B8_one _) ?_)
 refine bodyPost_ret (results_cell_row Tryz.results34 _ _ w.heap.size 24 (B8 ds) (0, 0) _ rfl (setRow_heap _ _ _ _ _ _ HH.out) Tryz.underlying24 rfl HI2.out) rfl ?_
 exact ⟨by rw [HD.out], Below.setRow hbel (Nat.le_refl _) _⟩
end Go.Proofs.YtdkpilgelgjieaaGreat.Di
namespace Go.Proofs.YtdkpilgelgjieaaGreat
open Go.RowKit
open Di (dref)
theorem h_at {w v : World} {a : Option Addr} {n c : Nat} {b : List Int} (h : Ag w a n c b) (hb : Below w.heap.size w v) : Ag v a n c b := h.at hb
theorem Znt (a : Option Addr) (n c : Nat) (b : List Int) (w : World) (h : Ag w a n c b) (hn : n <= 140737488351232) : Calls Tryz.prog 34 #[.slice a n c] w fun e w' => e = .returned (.agg (B8 (dref b))) /\ Below w.heap.size w w' :=
 Di.of_any a n c b w h.i h.l.symm h.b (by omega)
theorem Zhe (a : Option Addr) (n c : Nat) (b : List Int) (w : World) (h : Ag w a n c b) (hn : n <= 140737488351232) : Calls Tryz.prog 25 #[.slice a n c] w fun e w' => e = .returned (.agg (B8 (dref b))) /\ Below w.heap.size w w' :=
 Di.rof_any a n c b w (h.i.inB h.nil) h.b (by rw [h.l]; exact hn)
theorem dref_len (b : List Int) : (dref b).length = 32 := Di.dref_len b
theorem Zpd (b : List Int) : isB (dref b) := fun x hx => by
 unfold dref Di.dig at hx
 obtain ⟨i, _, rfl⟩ := List.mem_map.1 hx
 unfold Di.bt
 omega
end Go.Proofs.YtdkpilgelgjieaaGreat
namespace Go.Proofs.YtdkpilgelgjieaaGreat
open Go.RowKit
theorem Zc3 {fn : Func} {p u : Tmp} (h : fn.results = #[.cell p 60, .tmp u]) (tmps : Array Value) (w : World) (g : Nat) (y : RV) (hl : y.d.length = 32) (hp : tmps.getD p undef = .pointer (some ⟨g, 0, none⟩)) (hg : w.heap[g]? = some (.cells y.cells.toArray 60)) :
  (results fn tmps).run Tryz.prog w = .ok (.tuple #[.agg y.cells.toArray, tmps.getD u undef]) w := by
 have hp' : tmps[p]?.getD undef = .pointer (some ⟨g, 0, none⟩) := by simpa using hp
 have hr := run_loadVar_row (P := Tryz.prog) w g 60 60 y.cells.toArray (0, 0) _ hg Tryz.underlying60 rfl (by rw [Zix, List.size_toArray, RV.len hl])
 simp [results, h, hp', asAddr, hr]
def RPost (w : World) (o : Option PR) : Ending -> World -> Prop := fun e w' => Below w.heap.size w w' ∧
 match o with
 | none => ∃ y : RV, y.d.length = 32 /\ e = .returned (.tuple #[.agg y.cells.toArray, .bool false])
 | some r => ∃ y : RV, e = .returned (.tuple #[.agg y.cells.toArray, .bool true]) /\ RefAt (Own w.heap.size w') w' y r
theorem Zd7 (K : Nat -> Prop) (w : World) : AgK K w none 0 0 [] := ⟨⟨.inl ⟨rfl, rfl⟩, fun _ => ⟨rfl, rfl⟩, rfl, fun x hx => by cases hx⟩, by omega, fun g off e => by cases e⟩
theorem Ziw : isB z32 := fun x hx => by rw [z32, List.mem_replicate] at hx; omega
theorem Zc1 (K : Nat -> Prop) (w : World) : RefAt K w rz r0 := ⟨rfl, rfl, Ziw, rfl, Zd7 K w⟩
theorem Zbr {y : RV} (h : y.d.length = 32) : (rz.cells.toArray : Array Value).size = y.cells.toArray.size := by rw [List.size_toArray, List.size_toArray, RV.len h]; rfl
theorem Zb1 {y : RV} (h : y.d.length = 32) : (Tryz.prog.info? 60).map (·.size) = some y.cells.toArray.size := by rw [Zix, List.size_toArray, RV.len h]
structure Rr (w v : World) (x : V) : Prop where
 row : v.heap[w.heap.size + 1]? = some (.cells rz.cells.toArray 60)
 bx : B1 w.heap.size v x
 bel : Below w.heap.size w v
 sz : w.heap.size + 2 <= v.heap.size
theorem Rr.go {w v v' : World} {x : V} (h : Rr w v x) (hb : Below v.heap.size v v') : Rr w v' x := ⟨Below.row hb h.row, h.bx.go hb, below_go h.bel hb, Nat.le_trans h.sz hb.size⟩
theorem Zv9 (w : World) (x : V) : Rr w ((w.alloc (.cells #[.bool x.l, .slice x.ba x.bn x.bc, .slice x.ia x.m x.ic] 94)).alloc (.cells rz.cells.toArray 60)) x := by
 have s1 : (w.alloc (.cells #[.bool x.l, .slice x.ba x.bn x.bc, .slice x.ia x.m x.ic] 94)).heap.size = w.heap.size + 1 := by simp
 refine ⟨?_, (Zcy w x).alloc _, below_go (below_new w _) (below_new _ _), by simp⟩
 have := heap_alloc_new (w.alloc (.cells #[.bool x.l, .slice x.ba x.bn x.bc, .slice x.ia x.m x.ic] 94)) (.cells rz.cells.toArray 60)
 rwa [s1] at this
theorem Keep.setRow {base base' g : Nat} {v : World} {C : Array Value} (hg : g < base) (hb : base' <= base) : Keep (Own base v) (Own base' (v.setRow g C)) v (v.setRow g C) := fun k hK hk => by
 have e : (v.setRow g C).heap[k]? = v.heap[k]? := setRow_other _ _ _ _ (by have := hK.1; omega)
 exact ⟨e, Nat.le_trans hb hK.1, fun o => (World.frozen?_of_block (w := v) e).trans (hK.2 o)⟩
theorem Zvk {w : World} {N sc : Nat} {ad : Addr} {bs : List Int} (hN : w.heap[N]? = some (.cells (RV.cells ⟨2, z32, none, 0, 0⟩).toArray 60)) (hl : bs.length = 32) (hsrc : ∀ j v, (bs.map (Value.int .u8))[j]? = some v -> w.cell? (ad.add j) = some v) (ty : TypeId) :
  (Builtin.copy_ #[32, 32] ty #[.slice (some ⟨N, 1, none⟩) 32 32, .slice (some ad) 32 sc]).run Tryz.prog w = .ok (.int .i64 32) (w.setRow N (RV.cells ⟨2, bs, none, 0, 0⟩).toArray) := by
 have h := run_copy_row Tryz.prog w 32 32 ty 5 N 1 32 32 ad 32 sc (RV.cells ⟨2, z32, none, 0, 0⟩).toArray 60 (bs.map (Value.int .u8)) Tryz.underlying32 (by kernel_rfl) hN (by rw [List.length_map, hl]; rfl) hsrc (by rw [List.length_map, hl]; decide) (B8_one2 _)
 rw [h, List.length_map, hl]
 rfl
set_option maxHeartbeats 4000000 in
theorem Zlz (t : T) (x : V) (w : World) (h : Lies w t x) :
  Calls Tryz.prog 129 #[.agg #[.bool x.l, .slice x.ba x.bn x.bc, .slice x.ia x.m x.ic]] w (RPost w (refOfP t)) := by
 obtain ⟨l, bs, its⟩ := t
 obtain ⟨hl, hag, -⟩ := lies_eq.1 h
 have hbn : x.bn <= 140737488351232 := (lies_eq.1 h).2.2.2.2.2.1.1
 subst hl
 have HX := Hid.mk h
 have HAG := Hid.mk hag
 obtain ⟨res, hres⟩ : ∃ res, refOfP (.mk x.l bs its) = res := ⟨_, rfl⟩
 rw [hres]
 have hres : (if x.l = true then (if (mP (.mk x.l bs its)).2 = 0 then some (⟨1, z32, enc (.mk x.l bs its)⟩ : PR) else none) else if bs.length = 0 then some r0 else if bs.length = 32 then some ⟨2, bs, []⟩ else none) = res := hres
 rw [hag.l] at hres
 have HRES := Hid.mk hres
 have HRR := Hid.mk (Zv9 w x)
 clear h hag hres
 go_enter Tryz.func129, Tryz.ntmps129
 go_upto_region 1 with fail
 refine gen_w (p := fun v => Code.wp _ _ _ _ v) (q := fun v => Rr w v x) HRR.out ?_
 clear HRR
 intro v RR
 have c0 := RR.bx.c0
 have c1 := RR.bx.c1
 have c2 := RR.bx.c2
 have HRR := Hid.mk RR
 clear RR
 by_cases hxl : x.l = true
 ·have HE := Hid.mk (Zgj (.mk x.l bs its) x v (Zaw HRR.out.bel _ x HX.out))
  have HXL := Hid.mk hxl
  obtain ⟨xl, exl⟩ : ∃ xl, x.l = xl := ⟨_, rfl⟩
  have hres := HRES.out
  rw [if_pos hxl] at hres
  rw [hxl] at c0
  by_cases hm : (mP (.mk x.l bs its)).2 = 0
  ·rw [if_pos hm] at hres
   subst hres
   have hp := Zex hm
   have hle := Zwt hm
   rw [hp] at HE
   have HHLE := Hid.mk hle
   rw [show (((enc (T.mk x.l bs its), 0) : List Int × Nat).2 : Int) = 0 from rfl] at HE
   rw [show ((enc (T.mk x.l bs its), 0) : List Int × Nat).1 = enc (T.mk x.l bs its) from rfl] at HE
   generalize hen : enc (T.mk x.l bs its) = en at HE HHLE ⊢
   have hEx := HE.out
   rw [hxl] at hEx
   have HE2 := Hid.mk hEx
   have HEN := Hid.mk hen
   clear hp hle hm hen HE HRES hEx exl
   go_wp2_with fail
   refine HE2.out.mono ?_
   rintro e w1 ⟨⟨a, n, c, rfl, hag, hfr⟩, hb⟩
   have R1 := HRR.out.go hb
   have HAGK := Hid.mk (show AgK (Own (w.heap.size + 2) w1) w1 a n c en from ⟨hag, by have := hag.l; have := HHLE.out; omega, fun g off e h0 => by
    have := hfr g off e h0
    exact ⟨by have := HRR.out.sz; omega, this.2⟩⟩)
   have HR1 := Hid.mk R1
   have hl32 : z32.length = 32 := rfl
   clear hag hfr hb R1
   go_wp2_with (first | refine wpList_store_row rfl 60 _ _ rfl _ (RV.cells ⟨1, z32, a, n, c⟩).toArray rfl rfl 60 _ HR1.out.row (Zb1 rfl) (Zbr rfl) (all_oneCell_toArray (RV.one _)) ?_)
   refine bodyPost_ret (Zc3 Tryz.results129 _ _ (w.heap.size + 1) ⟨1, z32, a, n, c⟩ rfl rfl (setRow_heap _ _ _ _ _ _ HR1.out.row)) rfl ?_
   exact ⟨Below.setRow HR1.out.bel (by omega) _, ⟨1, z32, a, n, c⟩, rfl, rfl, rfl, Ziw, rfl, by rw [HEN.out]; exact HAGK.out.go (Keep.setRow (base := w.heap.size + 2) (base' := w.heap.size) (g := w.heap.size + 1) (by omega) (by omega))⟩
  ·rw [if_neg hm] at hres
   subst hres
   have hp := Zns hm
   rw [hp] at HE
   obtain ⟨er, her⟩ : ∃ er, (mP (.mk x.l bs its)).2 = er := ⟨_, rfl⟩
   rw [her] at HE hm
   have hee : ((er : Int) == 0) = false := by rw [beq_eq_false_iff_ne]; omega
   have hEx := HE.out
   rw [hxl] at hEx
   have HE2 := Hid.mk hEx
   clear hp hm her HE HRES hEx exl
   go_wp2_with fail
   refine HE2.out.mono ?_
   rintro e w1 ⟨⟨a, n, c, rfl, hag, hfr⟩, hb⟩
   have HR1 := Hid.mk (HRR.out.go hb)
   clear hag hfr hb
   go_wp2_with (first | refine wpList_store_row rfl 60 _ _ rfl _ (RV.cells ⟨1, z32, a, n, c⟩).toArray rfl rfl 60 _ HR1.out.row (Zb1 rfl) (Zbr rfl) (all_oneCell_toArray (RV.one _)) ?_)
   refine bodyPost_ret (Zc3 Tryz.results129 _ _ (w.heap.size + 1) ⟨1, z32, a, n, c⟩ rfl rfl (setRow_heap _ _ _ _ _ _ HR1.out.row)) rfl ?_
   exact ⟨Below.setRow HR1.out.bel (by omega) _, ⟨1, z32, a, n, c⟩, rfl, rfl⟩
 ·have hres := HRES.out
  rw [if_neg hxl] at hres
  have hxf : x.l = false := by simpa using hxl
  rw [hxf] at c0
  clear hxf hxl HRES HX
  by_cases h0 : x.bn = 0
  ·rw [if_pos h0] at hres
   subst hres
   go_wp2_with (first | refine wpList_store_row rfl 60 _ _ rfl _ rz.cells.toArray rfl rfl 60 _ HRR.out.row (Zb1 rfl) (Zbr rfl) (all_oneCell_toArray (RV.one _)) ?_)
   refine bodyPost_ret (Zc3 Tryz.results129 _ _ (w.heap.size + 1) rz rfl rfl (setRow_heap _ _ _ _ _ _ HRR.out.row)) rfl ?_
   exact ⟨Below.setRow HRR.out.bel (by omega) _, rz, rfl, Zc1 _ _⟩
  ·rw [if_neg h0] at hres
   by_cases h32 : x.bn = 32
   ·rw [if_pos h32] at hres
    subst hres
    have hz := HAG.out
    rw [h32] at hz c1
    obtain ⟨g, off, hba, _, _, hcs⟩ := ag_head hz (by omega)
    rw [hba] at c1
    have HBL := Hid.mk hz.l
    have HBB := Hid.mk hz.b
    have HCS := Hid.mk (show ∀ u, Below w.heap.size w u -> ∀ j z, (bs.map (Value.int .u8))[j]? = some z -> u.cell? ((⟨g, off, none⟩ : Addr).add j) = some z from fun u hu j z hz' => by
     have hj : j < 32 := by have := (List.getElem?_eq_some_iff.1 hz').1; rw [List.length_map, HBL.out] at this; exact this
     rw [Zax, Zae hu (hcs j hj), <- hz', List.getElem?_map, List.getD, List.getElem?_eq_getElem (by rw [HBL.out]; exact hj)]
     rfl)
    have HRB := Hid.mk hba
    have HR32 := Hid.mk h32
    clear hz hcs h0 h32 hba
    go_upto_region 9 with (first | refine wpList_store_row rfl 60 _ _ rfl _ (RV.cells ⟨2, z32, none, 0, 0⟩).toArray rfl rfl 60 _ (heap_alloc_new _ _) (Zb1 rfl) (Zbr rfl) (all_oneCell_toArray (RV.one _)) ?_)
    refine gen_w (p := fun v => Code.wp _ _ _ _ v) (q := fun u => RBx v.heap.size u ⟨2, z32, none, 0, 0⟩ /\ Rr w u x) ⟨⟨setRow_heap _ _ _ _ _ _ (heap_alloc_new _ _), rfl⟩, ?_⟩ ?_
    ·refine HRR.out.go (Below.setRow (below_new v _) (Nat.le_refl _) _)
    rintro u ⟨B2, R2⟩
    have d1 := R2.bx.c1
    rw [show x.ba = some ⟨g, off, none⟩ from HRB.out] at d1
    rw [HR32.out] at d1
    have HCP := Hid.mk (Zvk (w := u.drew) (N := v.heap.size) (sc := x.bc) B2.row HBL.out (HCS.out _ (R2.bel.drew)))
    have HB2 := Hid.mk B2
    have HR2 := Hid.mk R2
    have HVS := Hid.mk HRR.out.sz
    clear B2 R2 c0 c1 c2
    go_frame
    go_cut [] (fun u2 => RBx v.heap.size u2 ⟨2, bs, none, 0, 0⟩ /\ u2.heap[w.heap.size + 1]? = some (.cells rz.cells.toArray 60) /\ Below w.heap.size w u2)
    case first =>
     go_region_law (refine step_copy rfl _ _ 32 32 rfl _ _ rfl rfl (HCP.out _) ?_)
     all_goals
      go_wp2_with fail
      go_meet
      exact ⟨⟨setRow_heap _ _ _ _ _ _ HB2.out.row, HBL.out⟩, (setRow_other _ _ _ _ (by have := HVS.out; omega)).trans HR2.out.row, Below.setRow HR2.out.bel.drew (by have := HVS.out; omega) _⟩
    case rest =>
     obtain ⟨B3, r3, b3⟩ := hcut
     have HB3 := Hid.mk B3
     have HR3 := Hid.mk r3
     have HL3 := Hid.mk b3
     clear B3 r3 b3
     go_wp2_with (first | refine Za4 rfl _ rfl v.heap.size 0 rfl ⟨2, bs, none, 0, 0⟩ HBL.out HB3.out.all ?_ | refine wpList_store_row rfl 60 _ _ rfl _ (RV.cells ⟨2, bs, none, 0, 0⟩).toArray rfl rfl 60 _ HR3.out (Zb1 HBL.out) (Zbr HBL.out) (all_oneCell_toArray (RV.one _)) ?_)
     refine bodyPost_ret (Zc3 Tryz.results129 _ _ (w.heap.size + 1) ⟨2, bs, none, 0, 0⟩ HBL.out rfl (setRow_heap _ _ _ _ _ _ HR3.out)) rfl ?_
     exact ⟨Below.setRow HL3.out (by omega) _, ⟨2, bs, none, 0, 0⟩, rfl, rfl, rfl, HBB.out, HBL.out, Zd7 _ _⟩
   ·rw [if_neg h32] at hres
    subst hres
    go_wp2_with (first | refine wpList_store_row rfl 60 _ _ rfl _ rz.cells.toArray rfl rfl 60 _ HRR.out.row (Zb1 rfl) (Zbr rfl) (all_oneCell_toArray (RV.one _)) ?_)
    refine bodyPost_ret (Zc3 Tryz.results129 _ _ (w.heap.size + 1) rz rfl rfl (setRow_heap _ _ _ _ _ _ HRR.out.row)) rfl ?_
    exact ⟨Below.setRow HRR.out.bel (by omega) _, rz, rfl, rfl⟩
end Go.Proofs.YtdkpilgelgjieaaGreat
namespace Go.Proofs.YtdkpilgelgjieaaGreat.Ni
open Go.RowKit
set_option maxHeartbeats 2000000 in
theorem unpack_any (a : Option Addr) (n c : Nat) (b : List Int) (w : World) (h : Ag w a n c b) (hn : 2 * n <= 140737488355328) :
  Calls Tryz.prog 128 #[.slice a n c] w fun e w' => (∃ a' m, e = .returned (.tuple #[.slice a' m m, .bool (unpP b).2.1, .int .i64 ((unpP b).2.2 : Nat)]) /\ Cut w' w.heap.size a' m (unpP b).1) /\ Below w.heap.size w w' := by
 have hl := h.l
 by_cases h0 : n = 0
 ·subst h0
  have e : b = [] := List.eq_nil_of_length_eq_zero hl
  subst e
  rw [Zq9]
  simp only
  clear h hl
  go_enter Tryz.func128, Tryz.ntmps128
  go_wp2_with fail
  go_ret3
  exact ⟨⟨none, 0, rfl, ag_nil _, fun h => by omega⟩, Below.refl _ _⟩
 have hni : ((n : Int) == 0) = false := by rw [beq_eq_false_iff_ne]; omega
 have hnp : (0 : Int) < n := by omega
 obtain ⟨g, off, rfl, hnc, hcm, hcs⟩ := ag_head h (by omega)
 unfold maxLen at hcm
 have hcell := hcs 0 (by omega)
 rw [Nat.add_zero] at hcell
 have hx := h.b _ (getD_mem (l := b) (i := 0) (by omega))
 have hbad := Zra (b := b) (by omega)
 have hgood := Zn4 (b := b) (by omega)
 have hof := fun v (hb : Below w.heap.size w v) => of_any _ n c b v (h.at hb) hn
 have hnl : (nib b).length = 2 * n := by rw [nib_len, hl]
 generalize b.getD 0 0 = x at *
 obtain ⟨hx0, hx1⟩ := hx
 have hand := Z0b hx0 hx1
 have hq0 : 0 <= x / 16 := by omega
 have hq1 : x / 16 < 256 := by omega
 have HOF := Hid.mk hof
 have HNL := Hid.mk hnl
 have hn2 : 2 <= 2 * n := by omega
 clear h hl hcs hof hnl
 by_cases h3 : x / 16 > 3
 ·rw [hbad (.inl h3)]
  simp only
  clear hbad hgood
  go_enter Tryz.func128, Tryz.ntmps128
  go_wp2_with fail
  go_region
  all_goals
   go_wp2_with fail
   go_ret3
   exact ⟨⟨none, 0, rfl, ag_nil _, fun h => by omega⟩, (Below.refl _ _).drew⟩
 have hf : x / 16 = 0 \/ x / 16 = 1 \/ x / 16 = 2 \/ x / 16 = 3 := by omega
 clear h3 hq0 hq1
 rcases hf with hf | hf | hf | hf
 ·
  have c1 : bits BinOp.and IntKind.u8 0 1 = 0 := by decide +kernel
  have c2 : bits BinOp.and IntKind.u8 0 2 = 0 := by decide +kernel
  by_cases hs : x % 16 = 0
  ·
   rw [hgood (by unfold badU; omega), if_pos (by omega)]
   simp only
   rw [decide_eq_false (by omega)]
   clear hbad hgood
   go_enter Tryz.func128, Tryz.ntmps128
   go_wp2_with fail
   go_region
   all_goals
    go_wp2_with fail
    refine (HOF.out _ (Below.refl _ _).drew).mono ?_
    rintro e w1 ⟨⟨a1, rfl, hcut⟩, hb⟩
    have hcal := Zdw a1 (2 * n) (2 * n) 2 w.heap.size (nib b) w1 (by omega) (Nat.le_refl _) (by unfold maxLen; omega) (by omega) hcut.ag hcut.own
    rw [show ((2 : Nat) : Int) = 2 from rfl] at hcal
    have HCAL := Hid.mk hcal
    have HB := Hid.mk (((Below.refl w.heap.size w).drew).trans hb)
    clear hcal hcut hb
    go_wp2_with fail
    refine HCAL.out.mono ?_
    rintro e w2 ⟨⟨a2, rfl, hcut⟩, rfl⟩
    have HCUT := Hid.mk hcut
    clear hcut
    go_wp2_with fail
    go_ret3
    exact ⟨⟨a2, _, rfl, HCUT.out⟩, HB.out⟩
  ·
   rw [hbad (.inr ⟨by omega, hs⟩)]
   simp only
   clear hbad hgood
   have hsb : (x % 16 != 0) = true := by rw [bne_iff_ne]; exact hs
   clear hs
   go_enter Tryz.func128, Tryz.ntmps128
   go_wp2_with fail
   go_region
   all_goals
    go_wp2_with fail
    go_ret3
    exact ⟨⟨none, 0, rfl, ag_nil _, fun h => by omega⟩, (Below.refl _ _).drew⟩
 ·
  have c1 : bits BinOp.and IntKind.u8 1 1 = 1 := by decide +kernel
  have c2 : bits BinOp.and IntKind.u8 1 2 = 0 := by decide +kernel
  rw [hgood (by unfold badU; omega), if_neg (by omega)]
  simp only
  rw [decide_eq_false (by omega)]
  clear hbad hgood
  go_enter Tryz.func128, Tryz.ntmps128
  go_wp2_with fail
  go_region
  all_goals
   go_wp2_with fail
   refine (HOF.out _ (Below.refl _ _).drew).mono ?_
   rintro e w1 ⟨⟨a1, rfl, hcut⟩, hb⟩
   have hcal := Zdw a1 (2 * n) (2 * n) 1 w.heap.size (nib b) w1 (by omega) (Nat.le_refl _) (by unfold maxLen; omega) (by omega) hcut.ag hcut.own
   rw [show ((1 : Nat) : Int) = 1 from rfl] at hcal
   have HCAL := Hid.mk hcal
   have HB := Hid.mk (((Below.refl w.heap.size w).drew).trans hb)
   clear hcal hcut hb
   go_wp2_with fail
   refine HCAL.out.mono ?_
   rintro e w2 ⟨⟨a2, rfl, hcut⟩, rfl⟩
   have HCUT := Hid.mk hcut
   clear hcut
   go_wp2_with fail
   go_ret3
   exact ⟨⟨a2, _, rfl, HCUT.out⟩, HB.out⟩
 ·
  have c1 : bits BinOp.and IntKind.u8 2 1 = 0 := by decide +kernel
  have c2 : bits BinOp.and IntKind.u8 2 2 = 2 := by decide +kernel
  by_cases hs : x % 16 = 0
  ·
   rw [hgood (by unfold badU; omega), if_pos (by omega)]
   simp only
   rw [decide_eq_true (by omega)]
   clear hbad hgood
   go_enter Tryz.func128, Tryz.ntmps128
   go_wp2_with fail
   go_region
   all_goals
    go_wp2_with fail
    refine (HOF.out _ (Below.refl _ _).drew).mono ?_
    rintro e w1 ⟨⟨a1, rfl, hcut⟩, hb⟩
    have hcal := Zdw a1 (2 * n) (2 * n) 2 w.heap.size (nib b) w1 (by omega) (Nat.le_refl _) (by unfold maxLen; omega) (by omega) hcut.ag hcut.own
    rw [show ((2 : Nat) : Int) = 2 from rfl] at hcal
    have HCAL := Hid.mk hcal
    have HB := Hid.mk (((Below.refl w.heap.size w).drew).trans hb)
    clear hcal hcut hb
    go_wp2_with fail
    refine HCAL.out.mono ?_
    rintro e w2 ⟨⟨a2, rfl, hcut⟩, rfl⟩
    have HCUT := Hid.mk hcut
    clear hcut
    go_wp2_with fail
    go_ret3
    exact ⟨⟨a2, _, rfl, HCUT.out⟩, HB.out⟩
  ·
   rw [hbad (.inr ⟨by omega, hs⟩)]
   simp only
   clear hbad hgood
   have hsb : (x % 16 != 0) = true := by rw [bne_iff_ne]; exact hs
   clear hs
   go_enter Tryz.func128, Tryz.ntmps128
   go_wp2_with fail
   go_region
   all_goals
    go_wp2_with fail
    go_ret3
    exact ⟨⟨none, 0, rfl, ag_nil _, fun h => by omega⟩, (Below.refl _ _).drew⟩
 ·
  have c1 : bits BinOp.and IntKind.u8 3 1 = 1 := by decide +kernel
  have c2 : bits BinOp.and IntKind.u8 3 2 = 2 := by decide +kernel
  rw [hgood (by unfold badU; omega), if_neg (by omega)]
  simp only
  rw [decide_eq_true (by omega)]
  clear hbad hgood
  go_enter Tryz.func128, Tryz.ntmps128
  go_wp2_with fail
  go_region
  all_goals
   go_wp2_with fail
   refine (HOF.out _ (Below.refl _ _).drew).mono ?_
   rintro e w1 ⟨⟨a1, rfl, hcut⟩, hb⟩
   have hcal := Zdw a1 (2 * n) (2 * n) 1 w.heap.size (nib b) w1 (by omega) (Nat.le_refl _) (by unfold maxLen; omega) (by omega) hcut.ag hcut.own
   rw [show ((1 : Nat) : Int) = 1 from rfl] at hcal
   have HCAL := Hid.mk hcal
   have HB := Hid.mk (((Below.refl w.heap.size w).drew).trans hb)
   clear hcal hcut hb
   go_wp2_with fail
   refine HCAL.out.mono ?_
   rintro e w2 ⟨⟨a2, rfl, hcut⟩, rfl⟩
   have HCUT := Hid.mk hcut
   clear hcut
   go_wp2_with fail
   go_ret3
   exact ⟨⟨a2, _, rfl, HCUT.out⟩, HB.out⟩
end Go.Proofs.YtdkpilgelgjieaaGreat.Ni

/- A branch in its normal form; what is left when a value goes. -/
import Derived.Test.YtchgejomcgoaeaaGreatG25
import Derived.Test.YtchgejomcgoaeaaGreatG14
import Derived.Test.YtchgejomcgoaeaaGreatG15
set_option linter.unusedVariables false
set_option maxRecDepth 100000
namespace Go.Proofs.YtchgejomcgoaeaaGreat
open Go.RowKit
open Pt
variable {kn : Kn} {k : Nat → Pt} {x p q : List Int} {us : List (List Int)} {w : World} {g gK gU n c m : Nat} {vs : Nat → Value} {a : Option Addr} {cb : Bool} {u : Value} {s : Sp} {ws way : List Sp}
theorem nrm_0 {l : Nat} (h : kidsN k 16 = 0) : nrmP kn k x l = some (leaf [] x) := by unfold nrmP; rw [if_pos h]
theorem Zxw {l : Nat} (h : kidsN k 16 ≠ 0) (h1 : 1 < kidsN k 16 ∨ 0 < x.length) : nrmP kn k x l = some (br k x) := by unfold nrmP; rw [if_neg h, if_pos h1]
theorem nrm_l {l : Nat} (h : kidsN k 16 ≠ 0) (h1 : ¬ 1 < kidsN k 16) (h2 : ¬ 0 < x.length) : nrmP kn k x l = match lookP kn ⟨k (lastN k 16), l + 1, false⟩ with
    | none => none
    | some u => some (und [((lastN k 16 : Nat) : Int)] (if isBr u then k (lastN k 16) else u)) := by
  unfold nrmP
  rw [if_neg h, if_neg (fun q => q.elim h1 h2)]
  cases lookP kn ⟨k (lastN k 16), l + 1, false⟩ <;> rfl
def nrmU (kn : Kn) (k : Nat → Pt) (x : List Int) (l : Nat) (us : List (List Int)) : List (List Int) := if kidsN k 16 = 0 then us else if 1 < kidsN k 16 ∨ 0 < x.length then us else lkU kn ⟨k (lastN k 16), l + 1, false⟩ us
theorem Xcb {l : Nat} (h : kidsN k 16 = 0) : nrmU kn k x l us = us := by unfold nrmU; rw [if_pos h]
theorem Xbs {l : Nat} (h : kidsN k 16 ≠ 0) (h1 : 1 < kidsN k 16 ∨ 0 < x.length) : nrmU kn k x l us = us := by unfold nrmU; rw [if_neg h, if_pos h1]
theorem Xca {l : Nat} (h : kidsN k 16 ≠ 0) (h1 : ¬ 1 < kidsN k 16) (h2 : ¬ 0 < x.length) : nrmU kn k x l us = lkU kn ⟨k (lastN k 16), l + 1, false⟩ us := by unfold nrmU; rw [if_neg h, if_neg (fun q => q.elim h1 h2)]
def woU (kn : Kn) (s : Sp) (us : List (List Int)) : List (List Int) := match s.t with
  | br k _ => nrmU kn k [] s.l us
  | _ => us
set_option maxHeartbeats 1000000 in
theorem Zc4 {t0 : Pt} (hP : PAt w g gK gU t0 kn us) {l : Nat} (hk : KA w k vs) (hx : Sk An w a n c x) (hn : n ≤ 256) (hl : l ≤ 64) (hw : ∀ i, i < 16 → Wg (k i) (l + 1)) : Calls Tryz.prog 63 #[.pointer (some ⟨g, 0, none⟩), .agg (brc vs (.slice a n c)), .int .i64 ((l : Nat) : Int)] w fun e w' => ∃ v', e = .returned v' ∧ RNm w g gK gU t0 kn (nrmU kn k x l us) (nrmP kn k x l) v' w' := by
 have hgP := hP.lt
 have hgK := hP.km.lt
 have hgU := hP.um.lt
 have hxl := hx.len
 have hB : Bl w w := Bl.refl w
 refine Zaj Tryz.func63 rfl 67 rfl ?_
 show CW _ _ _ _ _ _ _ [(0, .pointer (some ⟨g, 0, none⟩)), (1, .agg (brc vs (.slice a n c))), (2, .int .i64 ((l : Nat) : Int))] _
 refine Zac ?_
 refine Zaa ?_
 refine Zar 4 (brc vs (.slice a n c)) 116 (fun _ => by kernel_rfl) (fun _ => by kernel_rfl) ?_
 intro w1 g2 hn3
 have hzg2 : w.heap.size ≤ g2 := by have := hB.size; have := hn3.hg; omega
 replace hB := hB.go hn3.below
 replace hP := hP.go hn3.below
 replace hk := hk.go hn3.below
 replace hx := hx.go hn3.below
 have hr4 : Rw g2 w1 (brc vs (.slice a n c)) 116 := hn3.row
 refine rp 6 (.nilIface) ?_
 refine rp 7 (.bool false) ?_
 refine Zad ?_
 refine Zab ?_
 refine Zac ?_
 refine Zaa ?_
 refine rp 8 (.int .i64 0) ?_
 refine rp 9 (.int .i64 0) ?_
 refine Zad ?_
 refine Zab ?_
 refine Zac ?_
 refine Zac ?_
 refine Zaa ?_
 refine rp 14 (.pointer (some ⟨g2, 0, none⟩)) ?_
 refine rv 15 (.agg (bra vs)) (fun _ => Zpn hr4 _ rfl (by kernel_rfl)) ?_
 refine rp 16 (.int .i64 0) ?_
 refine Zad ?_
 refine Zab ?_
 refine Zan ?_
 refine Zb8 (X := Nat) (fun j => [(16, .int .i64 ((j : Nat) : Int)), (8, .int .i64 ((kidsN k j : Nat) : Int)), (9, .int .i64 ((lastN k j : Nat) : Int)), (15, .agg (bra vs)), (4, .pointer (some ⟨g2, 0, none⟩)), (6, .nilIface), (0, .pointer (some ⟨g, 0, none⟩)), (2, .int .i64 ((l : Nat) : Int))]) (fun j v => v = w1 ∧ j ≤ 16) (fun j => 16 - j) 0 (by exact ⟨fun _ => by kernel_rfl, ⟨fun _ => by kernel_rfl, ⟨fun _ => by kernel_rfl, ⟨fun _ => by kernel_rfl, ⟨fun _ => by kernel_rfl, ⟨fun _ => by kernel_rfl, ⟨fun _ => by kernel_rfl, ⟨fun _ => by kernel_rfl, trivial⟩⟩⟩⟩⟩⟩⟩⟩) ⟨rfl, Nat.zero_le _⟩ ?_
 rintro j v ⟨hv, hj⟩
 rw [hv]
 clear hv v
 by_cases hlt : j < 16
 ·skip
  have hkl : kidsN k j ≤ j := Zk3 k j
  refine Zac ?_
  refine Zaa ?_
  refine rv 17 (.bool true) (fun _ => Zal (v := .bool (decide (((j : Nat) : Int) < (16 : Int)))) (by kernel_rfl) (congrArg Value.bool (decide_eq_true (by omega)))) ?_
  refine Zad ?_
  refine Zab ?_
  refine Zac ?_
  refine Zai (fun _ => by kernel_rfl) ?_
  refine Zam ?_
  refine Zab ?_
  refine Zac ?_
  refine Zan ?_
  refine Zac ?_
  refine Zaa ?_
  refine rp 18 (.int .i64 ((j : Nat) : Int)) ?_
  refine rv 19 (vs j) (fun _ => Zpj _ _ vs j hlt rfl (by kernel_rfl) (by kernel_rfl)) ?_
  refine rp 10 (.int .i64 ((j : Nat) : Int)) ?_
  refine rp 11 (vs j) ?_
  refine Zad ?_
  refine Zab ?_
  refine Zac ?_
  refine Zaa ?_
  refine rp 20 (vs j) ?_
  refine rv 21 (.bool (!(k j).isNo)) (fun _ => Zt4 (hk j hlt) _ _ rfl (by kernel_rfl) (by kernel_rfl)) ?_
  refine Zad ?_
  refine Zab ?_
  cases hno : (k j).isNo with
  | true =>
   show CW _ _ _ _ _ _ _ [(21, .bool false), (20, vs j), (11, vs j), (10, .int .i64 ((j : Nat) : Int)), (19, vs j), (18, .int .i64 ((j : Nat) : Int)), (17, .bool true), (16, .int .i64 ((j : Nat) : Int)), (8, .int .i64 ((kidsN k j : Nat) : Int)), (9, .int .i64 ((lastN k j : Nat) : Int)), (15, .agg (bra vs)), (4, .pointer (some ⟨g2, 0, none⟩)), (6, .nilIface), (0, .pointer (some ⟨g, 0, none⟩)), (2, .int .i64 ((l : Nat) : Int))] _
   have ek : kidsN k (j + 1) = kidsN k j := by simp [kidsN, hno]
   have el : lastN k (j + 1) = lastN k j := by simp [lastN, hno]
   rw [← ek, ← el]
   refine Zaf (fun _ => by kernel_rfl) ?_
   refine Zam ?_
   refine Zau ?_
   refine Zab ?_
   refine Zaa ?_
   refine rv 25 (.int .i64 ((j + 1 : Nat) : Int)) (fun _ => Zal (v := .int .i64 (IntKind.i64.wrap (((j : Nat) : Int) + 1))) (by kernel_rfl) (congrArg (Value.int .i64) (by rw [Zbc (by omega) (by omega)]; rfl))) ?_
   refine rp 16 (.int .i64 ((j + 1 : Nat) : Int)) ?_
   refine Zad ?_
   exact Za7 (E := fun j => [(16, .int .i64 ((j : Nat) : Int)), (8, .int .i64 ((kidsN k j : Nat) : Int)), (9, .int .i64 ((lastN k j : Nat) : Int)), (15, .agg (bra vs)), (4, .pointer (some ⟨g2, 0, none⟩)), (6, .nilIface), (0, .pointer (some ⟨g, 0, none⟩)), (2, .int .i64 ((l : Nat) : Int))]) (R := fun j v => v = w1 ∧ j ≤ 16) (μ := fun j => 16 - j) (x := j) (j + 1) (by exact ⟨fun _ => by kernel_rfl, ⟨fun _ => by kernel_rfl, ⟨fun _ => by kernel_rfl, ⟨fun _ => by kernel_rfl, ⟨fun _ => by kernel_rfl, ⟨fun _ => by kernel_rfl, ⟨fun _ => by kernel_rfl, ⟨fun _ => by kernel_rfl, trivial⟩⟩⟩⟩⟩⟩⟩⟩) ⟨rfl, by omega⟩ (by omega)
  | false =>
   show CW _ _ _ _ _ _ _ [(21, .bool true), (20, vs j), (11, vs j), (10, .int .i64 ((j : Nat) : Int)), (19, vs j), (18, .int .i64 ((j : Nat) : Int)), (17, .bool true), (16, .int .i64 ((j : Nat) : Int)), (8, .int .i64 ((kidsN k j : Nat) : Int)), (9, .int .i64 ((lastN k j : Nat) : Int)), (15, .agg (bra vs)), (4, .pointer (some ⟨g2, 0, none⟩)), (6, .nilIface), (0, .pointer (some ⟨g, 0, none⟩)), (2, .int .i64 ((l : Nat) : Int))] _
   have ek : kidsN k (j + 1) = kidsN k j + 1 := by simp [kidsN, hno]
   have el : lastN k (j + 1) = j := by simp [lastN, hno]
   refine Zai (fun _ => by kernel_rfl) ?_
   refine Zaa ?_
   refine rp 22 (.int .i64 ((kidsN k j : Nat) : Int)) ?_
   refine rv 23 (.int .i64 ((kidsN k (j + 1) : Nat) : Int)) (fun _ => Zal (v := .int .i64 (IntKind.i64.wrap (((kidsN k j : Nat) : Int) + 1))) (by kernel_rfl) (congrArg (Value.int .i64) (by rw [Zbc (by omega) (by omega), ek]; rfl))) ?_
   refine rv 24 (.int .i64 ((lastN k (j + 1) : Nat) : Int)) (fun _ => Zal (v := .int .i64 ((j : Nat) : Int)) (by kernel_rfl) (by rw [el])) ?_
   refine rp 8 (.int .i64 ((kidsN k (j + 1) : Nat) : Int)) ?_
   refine rp 9 (.int .i64 ((lastN k (j + 1) : Nat) : Int)) ?_
   refine Zad ?_
   refine Zau ?_
   refine Zab ?_
   refine Zaa ?_
   refine rv 25 (.int .i64 ((j + 1 : Nat) : Int)) (fun _ => Zal (v := .int .i64 (IntKind.i64.wrap (((j : Nat) : Int) + 1))) (by kernel_rfl) (congrArg (Value.int .i64) (by rw [Zbc (by omega) (by omega)]; rfl))) ?_
   refine rp 16 (.int .i64 ((j + 1 : Nat) : Int)) ?_
   refine Zad ?_
   exact Za7 (E := fun j => [(16, .int .i64 ((j : Nat) : Int)), (8, .int .i64 ((kidsN k j : Nat) : Int)), (9, .int .i64 ((lastN k j : Nat) : Int)), (15, .agg (bra vs)), (4, .pointer (some ⟨g2, 0, none⟩)), (6, .nilIface), (0, .pointer (some ⟨g, 0, none⟩)), (2, .int .i64 ((l : Nat) : Int))]) (R := fun j v => v = w1 ∧ j ≤ 16) (μ := fun j => 16 - j) (x := j) (j + 1) (by exact ⟨fun _ => by kernel_rfl, ⟨fun _ => by kernel_rfl, ⟨fun _ => by kernel_rfl, ⟨fun _ => by kernel_rfl, ⟨fun _ => by kernel_rfl, ⟨fun _ => by kernel_rfl, ⟨fun _ => by kernel_rfl, ⟨fun _ => by kernel_rfl, trivial⟩⟩⟩⟩⟩⟩⟩⟩) ⟨rfl, by omega⟩ (by omega)
 obtain rfl : j = 16 := by omega
 refine Zac ?_
 refine Zaa ?_
 refine rv 17 (.bool false) (fun _ => Zal (v := .bool (decide (((16 : Nat) : Int) < (16 : Int)))) (by kernel_rfl) (congrArg Value.bool (rfl))) ?_
 refine Zad ?_
 refine Zab ?_
 refine Zac ?_
 refine Zaf (fun _ => by kernel_rfl) ?_
 refine Zb1 ?_
 refine Zat ?_
 refine Zat ?_
 refine Za1 ?_
 refine Zab ?_
 refine Zac ?_
 refine Zac ?_
 have hk16 := Zk3 k 16
 by_cases h0 : kidsN k 16 = 0
 ·skip
  rw [nrm_0 h0, Xcb h0]
  refine Zaa ?_
  refine rp 26 (.int .i64 ((kidsN k 16 : Nat) : Int)) ?_
  refine rv 27 (.bool true) (fun _ => Zal (v := .bool (((kidsN k 16 : Nat) : Int) == (0 : Int))) (by kernel_rfl) (congrArg Value.bool (beq_iff_eq.2 (by omega)))) ?_
  refine Zad ?_
  refine Zab ?_
  refine Zai (fun _ => by kernel_rfl) ?_
  refine Zac ?_
  refine Zaa ?_
  refine rp 28 (.pointer (some ⟨g2, 16, none⟩)) ?_
  refine rv 29 (.slice a n c) (fun _ => Zag 29 _ ⟨g2, 16, none⟩ _ _ rfl (by kernel_rfl) (by rw [cell_of_row _ _ _ _ _ _ hr4]; rfl) Tryz.underlying29 rfl) ?_
  refine rp 30 (.agg #[.slice none 0 0, .slice a n c]) ?_
  refine rp 31 (.iface 110 (.agg #[.slice none 0 0, .slice a n c])) ?_
  refine rp 6 (.iface 110 (.agg #[.slice none 0 0, .slice a n c])) ?_
  refine rp 7 (.bool true) ?_
  refine Zad ?_
  refine Zab ?_
  refine Zap ?_
  refine Zah ?_
  refine Zae (.tuple #[.iface 110 (.agg #[.slice none 0 0, .slice a n c]), .bool true]) (fun _ => by kernel_rfl) ?_
  exact ⟨_, rfl, hP, ⟨_, rfl, ⟨_, _, _, _, _, _, rfl, Sk.nil _ _, hx, hn, by omega⟩⟩, TU.of hB⟩
 by_cases h1 : 1 < kidsN k 16
 ·skip
  rw [Zxw h0 (.inl h1), Xbs h0 (.inl h1)]
  refine Zaa ?_
  refine rp 26 (.int .i64 ((kidsN k 16 : Nat) : Int)) ?_
  refine rv 27 (.bool false) (fun _ => Zal (v := .bool (((kidsN k 16 : Nat) : Int) == (0 : Int))) (by kernel_rfl) (congrArg Value.bool (beq_eq_false_iff_ne.2 (by omega)))) ?_
  refine Zad ?_
  refine Zab ?_
  refine Zaf (fun _ => by kernel_rfl) ?_
  refine Zam ?_
  refine Zab ?_
  refine Zac ?_
  refine Zac ?_
  refine Zaa ?_
  refine rp 32 (.int .i64 ((kidsN k 16 : Nat) : Int)) ?_
  refine rv 33 (.bool true) (fun _ => Zal (v := .bool (decide (((kidsN k 16 : Nat) : Int) > (1 : Int)))) (by kernel_rfl) (congrArg Value.bool (decide_eq_true (by omega)))) ?_
  refine rp 34 (.bool true) ?_
  refine Za8 35 (fun _ => by kernel_rfl) ?_
  refine Za8 36 (fun _ => by kernel_rfl) ?_
  refine Za8 37 (fun _ => by kernel_rfl) ?_
  refine Za8 38 (fun _ => by kernel_rfl) ?_
  refine rp 39 (.bool true) ?_
  refine Zad ?_
  refine Zab ?_
  refine Zai (fun _ => by kernel_rfl) ?_
  refine Zac ?_
  refine Zaa ?_
  refine rv 40 (.agg (brc vs (.slice a n c))) (fun _ => Za2 116 _ _ _ _ _ _ rfl (by kernel_rfl) hr4 Tryz.underlying116 rfl (by kernel_rfl)) ?_
  refine rp 41 (.iface 116 (.agg (brc vs (.slice a n c)))) ?_
  refine rp 6 (.iface 116 (.agg (brc vs (.slice a n c)))) ?_
  refine rp 7 (.bool true) ?_
  refine Zad ?_
  refine Zab ?_
  refine Zap ?_
  refine Zah ?_
  refine Zae (.tuple #[.iface 116 (.agg (brc vs (.slice a n c))), .bool true]) (fun _ => by kernel_rfl) ?_
  exact ⟨_, rfl, hP, ⟨_, rfl, ⟨_, _, _, _, rfl, hk, hx, hn⟩⟩, TU.of hB⟩
 by_cases h2 : 0 < x.length
 ·skip
  rw [Zxw h0 (.inr h2), Xbs h0 (.inr h2)]
  refine Zaa ?_
  refine rp 26 (.int .i64 ((kidsN k 16 : Nat) : Int)) ?_
  refine rv 27 (.bool false) (fun _ => Zal (v := .bool (((kidsN k 16 : Nat) : Int) == (0 : Int))) (by kernel_rfl) (congrArg Value.bool (beq_eq_false_iff_ne.2 (by omega)))) ?_
  refine Zad ?_
  refine Zab ?_
  refine Zaf (fun _ => by kernel_rfl) ?_
  refine Zam ?_
  refine Zab ?_
  refine Zac ?_
  refine Zac ?_
  refine Zaa ?_
  refine rp 32 (.int .i64 ((kidsN k 16 : Nat) : Int)) ?_
  refine rv 33 (.bool false) (fun _ => Zal (v := .bool (decide (((kidsN k 16 : Nat) : Int) > (1 : Int)))) (by kernel_rfl) (congrArg Value.bool (decide_eq_false (by omega)))) ?_
  refine rp 34 (.bool false) ?_
  refine rp 35 (.pointer (some ⟨g2, 16, none⟩)) ?_
  refine rv 36 (.slice a n c) (fun _ => Zag 29 _ ⟨g2, 16, none⟩ _ _ rfl (by kernel_rfl) (by rw [cell_of_row _ _ _ _ _ _ hr4]; rfl) Tryz.underlying29 rfl) ?_
  refine rp 37 (.int .i64 n) ?_
  refine rv 38 (.bool true) (fun _ => Zal (v := .bool (decide ((n : Int) > (0 : Int)))) (by kernel_rfl) (congrArg Value.bool (decide_eq_true (by omega)))) ?_
  refine rp 39 (.bool true) ?_
  refine Zad ?_
  refine Zab ?_
  refine Zai (fun _ => by kernel_rfl) ?_
  refine Zac ?_
  refine Zaa ?_
  refine rv 40 (.agg (brc vs (.slice a n c))) (fun _ => Za2 116 _ _ _ _ _ _ rfl (by kernel_rfl) hr4 Tryz.underlying116 rfl (by kernel_rfl)) ?_
  refine rp 41 (.iface 116 (.agg (brc vs (.slice a n c)))) ?_
  refine rp 6 (.iface 116 (.agg (brc vs (.slice a n c)))) ?_
  refine rp 7 (.bool true) ?_
  refine Zad ?_
  refine Zab ?_
  refine Zap ?_
  refine Zah ?_
  refine Zae (.tuple #[.iface 116 (.agg (brc vs (.slice a n c))), .bool true]) (fun _ => by kernel_rfl) ?_
  exact ⟨_, rfl, hP, ⟨_, rfl, ⟨_, _, _, _, rfl, hk, hx, hn⟩⟩, TU.of hB⟩
 rw [nrm_l h0 h1 h2, Xca h0 h1 h2]
 have hL16 := Ziv k 16 (by omega)
 obtain ⟨L, hL⟩ : ∃ L, lastN k 16 = L := ⟨_, rfl⟩
 have hLno := Ziu k 16 (by omega)
 rw [hL] at hL16 hLno ⊢
 have hkL := hk L hL16
 cases hlk : lookP kn ⟨k L, l + 1, false⟩ with
 | none =>
  refine Zaa ?_
  refine rp 26 (.int .i64 ((kidsN k 16 : Nat) : Int)) ?_
  refine rv 27 (.bool false) (fun _ => Zal (v := .bool (((kidsN k 16 : Nat) : Int) == (0 : Int))) (by kernel_rfl) (congrArg Value.bool (beq_eq_false_iff_ne.2 (by omega)))) ?_
  refine Zad ?_
  refine Zab ?_
  refine Zaf (fun _ => by kernel_rfl) ?_
  refine Zam ?_
  refine Zab ?_
  refine Zac ?_
  refine Zac ?_
  refine Zaa ?_
  refine rp 32 (.int .i64 ((kidsN k 16 : Nat) : Int)) ?_
  refine rv 33 (.bool false) (fun _ => Zal (v := .bool (decide (((kidsN k 16 : Nat) : Int) > (1 : Int)))) (by kernel_rfl) (congrArg Value.bool (decide_eq_false (by omega)))) ?_
  refine rp 34 (.bool false) ?_
  refine rp 35 (.pointer (some ⟨g2, 16, none⟩)) ?_
  refine rv 36 (.slice a n c) (fun _ => Zag 29 _ ⟨g2, 16, none⟩ _ _ rfl (by kernel_rfl) (by rw [cell_of_row _ _ _ _ _ _ hr4]; rfl) Tryz.underlying29 rfl) ?_
  refine rp 37 (.int .i64 n) ?_
  refine rv 38 (.bool false) (fun _ => Zal (v := .bool (decide ((n : Int) > (0 : Int)))) (by kernel_rfl) (congrArg Value.bool (decide_eq_false (by omega)))) ?_
  refine rp 39 (.bool false) ?_
  refine Zad ?_
  refine Zab ?_
  refine Zaf (fun _ => by kernel_rfl) ?_
  refine Zam ?_
  refine Zab ?_
  refine Zac ?_
  refine Zaa ?_
  refine rp 43 (.pointer (some ⟨g, 0, none⟩)) ?_
  refine rp 44 (.int .i64 ((L : Nat) : Int)) ?_
  refine rp 45 (.pointer (some ⟨g2, 0, none⟩)) ?_
  refine rv 46 (.pointer (some ⟨g2, 0 + L * 1, none⟩)) (fun _ => Zb5 (kd := .i64) 114 _ _ g2 0 L 16 1 47 rfl (by kernel_rfl) (by kernel_rfl) hL16 (by omega) Tryz.underlying114 (by kernel_rfl)) ?_
  refine rv 47 (vs L) (fun _ => Zag 47 _ ⟨g2, 0 + L * 1, none⟩ _ _ rfl (by kernel_rfl) (by rw [Nat.zero_add, Nat.mul_one, cell_of_row _ _ _ _ _ _ hr4]; exact Zg9 _ _ _ hL16) Tryz.underlying47 rfl) ?_
  refine rp 48 (.int .i64 ((l : Nat) : Int)) ?_
  refine rv 49 (.int .i64 ((l + 1 : Nat) : Int)) (fun _ => Zal (v := .int .i64 (IntKind.i64.wrap (((l : Nat) : Int) + (1 : Int)))) (by kernel_rfl) (congrArg (Value.int .i64) ((Zbc (by omega) (by omega)).trans (by omega)))) ?_
  refine rv 50 (.agg #[vs L, .int .i64 ((l + 1 : Nat) : Int), .bool false]) (fun _ => Zbz 88 _ rfl [(0, vs L), (1, .int .i64 ((l + 1 : Nat) : Int)), (2, .bool false)] (by kernel_rfl) _ (Zi5 hkL _ _)) ?_
  refine Zak 51 60 #[.pointer (some ⟨g, 0, none⟩), .agg #[vs L, .int .i64 ((l + 1 : Nat) : Int), .bool false]] (fun _ => by kernel_rfl) (fun _ => by kernel_rfl) (R := RLk w1 g gK gU t0 kn _ none) (by have := Zeu (s := ⟨k L, l + 1, false⟩) hP hkL (by simp only; omega); rw [hlk] at this; exact this) ?_
  rintro _ w5 ⟨hP6, rfl, hT7⟩
  replace hB : TU gU w w5 := (TU.of hB).trans hT7
  replace hP := hP6
  replace hk := hk.nt hT7.n
  replace hx := hx.nt hT7.n
  replace hr4 := hr4.past hT7.t (by omega)
  replace hkL := hkL.nt hT7.n
  refine rp 42 (.tuple #[.nilIface, .bool false]) ?_
  refine rp 52 (.nilIface) ?_
  refine rp 53 (.bool false) ?_
  refine rp 12 (.nilIface) ?_
  refine rp 13 (.bool false) ?_
  refine Zad ?_
  refine Zab ?_
  refine Zac ?_
  refine Zac ?_
  refine Zaa ?_
  refine rp 54 (.bool false) ?_
  refine rp 55 (.bool true) ?_
  refine Zad ?_
  refine Zab ?_
  refine Zai (fun _ => by kernel_rfl) ?_
  refine Zac ?_
  refine Zaa ?_
  refine rp 6 (.nilIface) ?_
  refine rp 7 (.bool false) ?_
  refine Zad ?_
  refine Zab ?_
  refine Zap ?_
  refine Zah ?_
  refine Zae (.tuple #[.nilIface, .bool false]) (fun _ => by kernel_rfl) ?_
  exact ⟨_, rfl, hP, rfl, hB⟩
 | some u2 =>
  have hwu := Zgu hP.ok (s := ⟨k L, l + 1, false⟩) (hw L hL16) hlk
  have hnd := Zp7 hP.ok (s := ⟨k L, l + 1, false⟩) hLno hlk
  have h64 : l + 1 ≤ 64 := Zwy hnd hwu
  refine Zaa ?_
  refine rp 26 (.int .i64 ((kidsN k 16 : Nat) : Int)) ?_
  refine rv 27 (.bool false) (fun _ => Zal (v := .bool (((kidsN k 16 : Nat) : Int) == (0 : Int))) (by kernel_rfl) (congrArg Value.bool (beq_eq_false_iff_ne.2 (by omega)))) ?_
  refine Zad ?_
  refine Zab ?_
  refine Zaf (fun _ => by kernel_rfl) ?_
  refine Zam ?_
  refine Zab ?_
  refine Zac ?_
  refine Zac ?_
  refine Zaa ?_
  refine rp 32 (.int .i64 ((kidsN k 16 : Nat) : Int)) ?_
  refine rv 33 (.bool false) (fun _ => Zal (v := .bool (decide (((kidsN k 16 : Nat) : Int) > (1 : Int)))) (by kernel_rfl) (congrArg Value.bool (decide_eq_false (by omega)))) ?_
  refine rp 34 (.bool false) ?_
  refine rp 35 (.pointer (some ⟨g2, 16, none⟩)) ?_
  refine rv 36 (.slice a n c) (fun _ => Zag 29 _ ⟨g2, 16, none⟩ _ _ rfl (by kernel_rfl) (by rw [cell_of_row _ _ _ _ _ _ hr4]; rfl) Tryz.underlying29 rfl) ?_
  refine rp 37 (.int .i64 n) ?_
  refine rv 38 (.bool false) (fun _ => Zal (v := .bool (decide ((n : Int) > (0 : Int)))) (by kernel_rfl) (congrArg Value.bool (decide_eq_false (by omega)))) ?_
  refine rp 39 (.bool false) ?_
  refine Zad ?_
  refine Zab ?_
  refine Zaf (fun _ => by kernel_rfl) ?_
  refine Zam ?_
  refine Zab ?_
  refine Zac ?_
  refine Zaa ?_
  refine rp 43 (.pointer (some ⟨g, 0, none⟩)) ?_
  refine rp 44 (.int .i64 ((L : Nat) : Int)) ?_
  refine rp 45 (.pointer (some ⟨g2, 0, none⟩)) ?_
  refine rv 46 (.pointer (some ⟨g2, 0 + L * 1, none⟩)) (fun _ => Zb5 (kd := .i64) 114 _ _ g2 0 L 16 1 47 rfl (by kernel_rfl) (by kernel_rfl) hL16 (by omega) Tryz.underlying114 (by kernel_rfl)) ?_
  refine rv 47 (vs L) (fun _ => Zag 47 _ ⟨g2, 0 + L * 1, none⟩ _ _ rfl (by kernel_rfl) (by rw [Nat.zero_add, Nat.mul_one, cell_of_row _ _ _ _ _ _ hr4]; exact Zg9 _ _ _ hL16) Tryz.underlying47 rfl) ?_
  refine rp 48 (.int .i64 ((l : Nat) : Int)) ?_
  refine rv 49 (.int .i64 ((l + 1 : Nat) : Int)) (fun _ => Zal (v := .int .i64 (IntKind.i64.wrap (((l : Nat) : Int) + (1 : Int)))) (by kernel_rfl) (congrArg (Value.int .i64) ((Zbc (by omega) (by omega)).trans (by omega)))) ?_
  refine rv 50 (.agg #[vs L, .int .i64 ((l + 1 : Nat) : Int), .bool false]) (fun _ => Zbz 88 _ rfl [(0, vs L), (1, .int .i64 ((l + 1 : Nat) : Int)), (2, .bool false)] (by kernel_rfl) _ (Zi5 hkL _ _)) ?_
  refine Zak 51 60 #[.pointer (some ⟨g, 0, none⟩), .agg #[vs L, .int .i64 ((l + 1 : Nat) : Int), .bool false]] (fun _ => by kernel_rfl) (fun _ => by kernel_rfl) (R := RLk w1 g gK gU t0 kn _ (some u2)) (by have := Zeu (s := ⟨k L, l + 1, false⟩) hP hkL (by simp only; omega); rw [hlk] at this; exact this) ?_
  rintro _ w8 ⟨hP9, ⟨v11, rfl, ht12⟩, hT10⟩
  replace hB : TU gU w w8 := (TU.of hB).trans hT10
  replace hP := hP9
  replace hk := hk.nt hT10.n
  replace hx := hx.nt hT10.n
  replace hr4 := hr4.past hT10.t (by omega)
  replace hkL := hkL.nt hT10.n
  refine rp 42 (.tuple #[v11, .bool true]) ?_
  refine rp 52 (v11) ?_
  refine rp 53 (.bool true) ?_
  refine rp 12 (v11) ?_
  refine rp 13 (.bool true) ?_
  refine Zad ?_
  refine Zab ?_
  refine Zac ?_
  refine Zac ?_
  refine Zaa ?_
  refine rp 54 (.bool true) ?_
  refine rp 55 (.bool false) ?_
  refine Zad ?_
  refine Zab ?_
  refine Zaf (fun _ => by kernel_rfl) ?_
  refine Zam ?_
  refine Zab ?_
  refine Zac ?_
  refine Zac ?_
  refine Zaa ?_
  refine rp 56 (v11) ?_
  refine Zak 57 94 #[v11] (fun _ => by kernel_rfl) (fun _ => by kernel_rfl) (R := RVl w8 (.bool u2.isBr)) (Zmf ht12) ?_
  rintro _ w13 ⟨rfl, hb14⟩
  replace hB := hB.go hb14
  replace hP := hP.go hb14
  replace hk := hk.go hb14
  replace hx := hx.go hb14
  replace hr4 := hr4.go hb14
  replace hkL := hkL.go hb14
  replace ht12 := ht12.go hb14
  refine Zad ?_
  refine Zab ?_
  cases hq15 : (u2.isBr) with
  | true =>
   refine Zai (fun _ => by kernel_rfl) ?_
   refine Zaa ?_
   refine rp 58 (.int .i64 ((L : Nat) : Int)) ?_
   refine rp 59 (.pointer (some ⟨g2, 0, none⟩)) ?_
   refine rv 60 (.pointer (some ⟨g2, 0 + L * 1, none⟩)) (fun _ => Zb5 (kd := .i64) 114 _ _ g2 0 L 16 1 47 rfl (by kernel_rfl) (by kernel_rfl) hL16 (by omega) Tryz.underlying114 (by kernel_rfl)) ?_
   refine rv 61 (vs L) (fun _ => Zag 47 _ ⟨g2, 0 + L * 1, none⟩ _ _ rfl (by kernel_rfl) (by rw [Nat.zero_add, Nat.mul_one, cell_of_row _ _ _ _ _ _ hr4]; exact Zg9 _ _ _ hL16) Tryz.underlying47 rfl) ?_
   refine rp 12 (vs L) ?_
   refine Zad ?_
   refine Zab ?_
   refine Zac ?_
   refine Zaa ?_
   refine rp 62 (vs L) ?_
   refine rp 63 (.int .i64 ((L : Nat) : Int)) ?_
   refine rv 64 (.int .u8 ((L : Nat) : Int)) (fun _ => Zal (v := .int .u8 (IntKind.u8.wrap ((L : Nat) : Int))) (by kernel_rfl) (congrArg (Value.int .u8) (Zwt hL16))) ?_
   refine Zcg 65 #[.int .u8 ((L : Nat) : Int)] 5 1 (fun _ => by kernel_rfl) (fun _ => by kernel_rfl) ?_
   intro w16 g17 hn18
   replace hB := hB.go hn18.below
   replace hP := hP.go hn18.below
   replace hk := hk.go hn18.below
   replace hx := hx.go hn18.below
   replace hr4 := hr4.go hn18.below
   replace hkL := hkL.go hn18.below
   replace ht12 := ht12.go hn18.below
   have ha19 : Sk An w16 (some ⟨g17, 0, none⟩) 1 1 [((L : Nat) : Int)] := Zt3 (by omega) hn18 (fun _ _ => trivial)
   refine Zak 66 62 #[vs L, .slice (some ⟨g17, 0, none⟩) 1 1] (fun _ => by kernel_rfl) (fun _ => by kernel_rfl) (R := RTh w16 (und [((L : Nat) : Int)] (k L))) (Zdn (l := l + 1) hkL (hw L hL16) ha19 (by omega)) ?_
   rintro u20 w21 ⟨ht22, hb23⟩
   replace hB := hB.go hb23
   replace hP := hP.go hb23
   replace hk := hk.go hb23
   replace hx := hx.go hb23
   replace hr4 := hr4.go hb23
   replace hkL := hkL.go hb23
   replace ht12 := ht12.go hb23
   replace ha19 := ha19.go hb23
   refine rp 6 (u20) ?_
   refine rp 7 (.bool true) ?_
   refine Zad ?_
   refine Zab ?_
   refine Zap ?_
   refine Zae (.tuple #[u20, .bool true]) (fun _ => by kernel_rfl) ?_
   simp only [hq15, if_true]
   exact ⟨_, rfl, hP, ⟨_, rfl, ht22⟩, hB⟩
  | false =>
   refine Zaf (fun _ => by kernel_rfl) ?_
   refine Zam ?_
   refine Zab ?_
   refine Zac ?_
   refine Zaa ?_
   refine rp 62 (v11) ?_
   refine rp 63 (.int .i64 ((L : Nat) : Int)) ?_
   refine rv 64 (.int .u8 ((L : Nat) : Int)) (fun _ => Zal (v := .int .u8 (IntKind.u8.wrap ((L : Nat) : Int))) (by kernel_rfl) (congrArg (Value.int .u8) (Zwt hL16))) ?_
   refine Zcg 65 #[.int .u8 ((L : Nat) : Int)] 5 1 (fun _ => by kernel_rfl) (fun _ => by kernel_rfl) ?_
   intro w24 g25 hn26
   replace hB := hB.go hn26.below
   replace hP := hP.go hn26.below
   replace hk := hk.go hn26.below
   replace hx := hx.go hn26.below
   replace hr4 := hr4.go hn26.below
   replace hkL := hkL.go hn26.below
   replace ht12 := ht12.go hn26.below
   have ha27 : Sk An w24 (some ⟨g25, 0, none⟩) 1 1 [((L : Nat) : Int)] := Zt3 (by omega) hn26 (fun _ _ => trivial)
   refine Zak 66 62 #[v11, .slice (some ⟨g25, 0, none⟩) 1 1] (fun _ => by kernel_rfl) (fun _ => by kernel_rfl) (R := RTh w24 (und [((L : Nat) : Int)] u2)) (Zdn (l := l + 1) ht12 hwu ha27 (by omega)) ?_
   rintro u28 w29 ⟨ht30, hb31⟩
   replace hB := hB.go hb31
   replace hP := hP.go hb31
   replace hk := hk.go hb31
   replace hx := hx.go hb31
   replace hr4 := hr4.go hb31
   replace hkL := hkL.go hb31
   replace ht12 := ht12.go hb31
   replace ha27 := ha27.go hb31
   refine rp 6 (u28) ?_
   refine rp 7 (.bool true) ?_
   refine Zad ?_
   refine Zab ?_
   refine Zap ?_
   refine Zae (.tuple #[u28, .bool true]) (fun _ => by kernel_rfl) ?_
   simp only [hq15, Bool.false_eq_true, if_false]
   exact ⟨_, rfl, hP, ⟨_, rfl, ht30⟩, hB⟩
set_option maxHeartbeats 1000000 in
theorem wo_no {l : Nat} {t0 : Pt} (hP : PAt w g gK gU t0 kn us)  : Calls Tryz.prog 43 #[.pointer (some ⟨g, 0, none⟩), .agg #[.nilIface, .int .i64 ((l : Nat) : Int), .bool cb]] w fun e w' => ∃ v', e = .returned v' ∧ RNm w g gK gU t0 kn us (some no) v' w' := by
 have hgP := hP.lt
 have hgK := hP.km.lt
 have hgU := hP.um.lt
 have hB : Bl w w := Bl.refl w
 refine Zaj Tryz.func43 rfl 24 rfl ?_
 show CW _ _ _ _ _ _ _ [(0, .pointer (some ⟨g, 0, none⟩)), (1, .agg #[.nilIface, .int .i64 ((l : Nat) : Int), .bool cb])] _
 refine Zac ?_
 refine Zaa ?_
 refine Zar 3 (#[.nilIface, .int .i64 ((l : Nat) : Int), .bool cb]) 88 (fun _ => by kernel_rfl) (fun _ => by kernel_rfl) ?_
 intro w1 g2 hn3
 have hzg2 : w.heap.size ≤ g2 := by have := hB.size; have := hn3.hg; omega
 replace hB := hB.go hn3.below
 replace hP := hP.go hn3.below
 have hr4 : Rw g2 w1 (#[.nilIface, .int .i64 ((l : Nat) : Int), .bool cb]) 88 := hn3.row
 refine rp 4 (.nilIface) ?_
 refine rp 5 (.bool false) ?_
 refine Zad ?_
 refine Zab ?_
 refine Zac ?_
 refine Zaa ?_
 refine rp 9 (.pointer (some ⟨g2, 0, none⟩)) ?_
 refine rv 10 (.nilIface) (fun _ => Zag 47 _ ⟨g2, 0, none⟩ _ _ rfl (by kernel_rfl) (by rw [cell_of_row _ _ _ _ _ _ hr4]; rfl) Tryz.underlying47 rfl) ?_
 refine rp 11 (.tuple #[.agg (brc (fun _ => .nilIface) (.slice none 0 0)), .bool false]) ?_
 refine rp 8 (.tuple #[.agg (brc (fun _ => .nilIface) (.slice none 0 0)), .bool false]) ?_
 refine rp 12 (.agg (brc (fun _ => .nilIface) (.slice none 0 0))) ?_
 refine rp 13 (.bool false) ?_
 refine Zar 6 (brc (fun _ => .nilIface) (.slice none 0 0)) 116 (fun _ => by kernel_rfl) (fun _ => by kernel_rfl) ?_
 intro w5 g6 hn7
 have hr8 : Rw g6 w5 (brc (fun _ => .nilIface) (.slice none 0 0)) 116 := hn7.row
 refine Zav g6 (brc (fun _ => .nilIface) (.slice none 0 0)) (fun _ => by kernel_rfl) (fun _ => Zao 116 _ _ _ _ _ 116 rfl (by kernel_rfl) (by kernel_rfl) hr8 (by kernel_rfl) (by kernel_rfl) (Zbl (KA.none w))) ?_
 intro w9 hp10
 replace hn7 := hn7.put hp10
 clear hr8
 have hlg2g6 : g2 < g6 := by have := hr4.lt; have := hn7.hg; omega
 have hzg6 : w.heap.size ≤ g6 := by have := hB.size; have := hn7.hg; omega
 replace hB := hB.go hn7.below
 replace hP := hP.go hn7.below
 replace hr4 := hr4.go hn7.below
 have hr12 : Rw g6 w9 (brc (fun _ => .nilIface) (.slice none 0 0)) 116 := hn7.row
 refine rp 7 (.bool false) ?_
 refine Zad ?_
 refine Zab ?_
 refine Zac ?_
 refine Zac ?_
 refine Zaa ?_
 refine rp 14 (.bool false) ?_
 refine rp 15 (.bool true) ?_
 refine Zad ?_
 refine Zab ?_
 refine Zai (fun _ => by kernel_rfl) ?_
 refine Zac ?_
 refine Zaa ?_
 refine rp 4 (.nilIface) ?_
 refine rp 5 (.bool true) ?_
 refine Zad ?_
 refine Zab ?_
 refine Zap ?_
 refine Zah ?_
 refine Zae (.tuple #[.nilIface, .bool true]) (fun _ => by kernel_rfl) ?_
 exact ⟨_, rfl, hP, ⟨_, rfl, rfl⟩, TU.of hB⟩
set_option maxHeartbeats 1000000 in
theorem wo_st {d : List Int} {l : Nat} {t0 : Pt} (hP : PAt w g gK gU t0 kn us) (hd : d.length = 32)  : Calls Tryz.prog 43 #[.pointer (some ⟨g, 0, none⟩), .agg #[.iface 50 (.agg (B8 d)), .int .i64 ((l : Nat) : Int), .bool cb]] w fun e w' => ∃ v', e = .returned v' ∧ RNm w g gK gU t0 kn us (some no) v' w' := by
 have hgP := hP.lt
 have hgK := hP.km.lt
 have hgU := hP.um.lt
 have hB : Bl w w := Bl.refl w
 refine Zaj Tryz.func43 rfl 24 rfl ?_
 show CW _ _ _ _ _ _ _ [(0, .pointer (some ⟨g, 0, none⟩)), (1, .agg #[.iface 50 (.agg (B8 d)), .int .i64 ((l : Nat) : Int), .bool cb])] _
 refine Zac ?_
 refine Zaa ?_
 refine Zar 3 (#[.iface 50 (.agg (B8 d)), .int .i64 ((l : Nat) : Int), .bool cb]) 88 (fun _ => by kernel_rfl) (fun _ => by kernel_rfl) ?_
 intro w1 g2 hn3
 have hzg2 : w.heap.size ≤ g2 := by have := hB.size; have := hn3.hg; omega
 replace hB := hB.go hn3.below
 replace hP := hP.go hn3.below
 have hr4 : Rw g2 w1 (#[.iface 50 (.agg (B8 d)), .int .i64 ((l : Nat) : Int), .bool cb]) 88 := hn3.row
 refine rp 4 (.nilIface) ?_
 refine rp 5 (.bool false) ?_
 refine Zad ?_
 refine Zab ?_
 refine Zac ?_
 refine Zaa ?_
 refine rp 9 (.pointer (some ⟨g2, 0, none⟩)) ?_
 refine rv 10 (.iface 50 (.agg (B8 d))) (fun _ => Zag 47 _ ⟨g2, 0, none⟩ _ _ rfl (by kernel_rfl) (by rw [cell_of_row _ _ _ _ _ _ hr4]; rfl) Tryz.underlying47 rfl) ?_
 refine rp 11 (.tuple #[.agg (brc (fun _ => .nilIface) (.slice none 0 0)), .bool false]) ?_
 refine rp 8 (.tuple #[.agg (brc (fun _ => .nilIface) (.slice none 0 0)), .bool false]) ?_
 refine rp 12 (.agg (brc (fun _ => .nilIface) (.slice none 0 0))) ?_
 refine rp 13 (.bool false) ?_
 refine Zar 6 (brc (fun _ => .nilIface) (.slice none 0 0)) 116 (fun _ => by kernel_rfl) (fun _ => by kernel_rfl) ?_
 intro w5 g6 hn7
 have hr8 : Rw g6 w5 (brc (fun _ => .nilIface) (.slice none 0 0)) 116 := hn7.row
 refine Zav g6 (brc (fun _ => .nilIface) (.slice none 0 0)) (fun _ => by kernel_rfl) (fun _ => Zao 116 _ _ _ _ _ 116 rfl (by kernel_rfl) (by kernel_rfl) hr8 (by kernel_rfl) (by kernel_rfl) (Zbl (KA.none w))) ?_
 intro w9 hp10
 replace hn7 := hn7.put hp10
 clear hr8
 have hlg2g6 : g2 < g6 := by have := hr4.lt; have := hn7.hg; omega
 have hzg6 : w.heap.size ≤ g6 := by have := hB.size; have := hn7.hg; omega
 replace hB := hB.go hn7.below
 replace hP := hP.go hn7.below
 replace hr4 := hr4.go hn7.below
 have hr12 : Rw g6 w9 (brc (fun _ => .nilIface) (.slice none 0 0)) 116 := hn7.row
 refine rp 7 (.bool false) ?_
 refine Zad ?_
 refine Zab ?_
 refine Zac ?_
 refine Zac ?_
 refine Zaa ?_
 refine rp 14 (.bool false) ?_
 refine rp 15 (.bool true) ?_
 refine Zad ?_
 refine Zab ?_
 refine Zai (fun _ => by kernel_rfl) ?_
 refine Zac ?_
 refine Zaa ?_
 refine rp 4 (.nilIface) ?_
 refine rp 5 (.bool true) ?_
 refine Zad ?_
 refine Zab ?_
 refine Zap ?_
 refine Zah ?_
 refine Zae (.tuple #[.nilIface, .bool true]) (fun _ => by kernel_rfl) ?_
 exact ⟨_, rfl, hP, ⟨_, rfl, rfl⟩, TU.of hB⟩
set_option maxHeartbeats 1000000 in
theorem Zum {b : Option Addr} {d : Nat} {l : Nat} {t0 : Pt} (hP : PAt w g gK gU t0 kn us) (hp : Sk An w a n c p) (hx : Sk An w b m d x) (hm : m ≤ 256) (hn : n ≤ 140737488351232)  : Calls Tryz.prog 43 #[.pointer (some ⟨g, 0, none⟩), .agg #[.iface 110 (.agg #[.slice a n c, .slice b m d]), .int .i64 ((l : Nat) : Int), .bool cb]] w fun e w' => ∃ v', e = .returned v' ∧ RNm w g gK gU t0 kn us (some no) v' w' := by
 have hgP := hP.lt
 have hgK := hP.km.lt
 have hgU := hP.um.lt
 have hB : Bl w w := Bl.refl w
 refine Zaj Tryz.func43 rfl 24 rfl ?_
 show CW _ _ _ _ _ _ _ [(0, .pointer (some ⟨g, 0, none⟩)), (1, .agg #[.iface 110 (.agg #[.slice a n c, .slice b m d]), .int .i64 ((l : Nat) : Int), .bool cb])] _
 refine Zac ?_
 refine Zaa ?_
 refine Zar 3 (#[.iface 110 (.agg #[.slice a n c, .slice b m d]), .int .i64 ((l : Nat) : Int), .bool cb]) 88 (fun _ => by kernel_rfl) (fun _ => by kernel_rfl) ?_
 intro w1 g2 hn3
 have hzg2 : w.heap.size ≤ g2 := by have := hB.size; have := hn3.hg; omega
 replace hB := hB.go hn3.below
 replace hp := hp.go hn3.below
 replace hx := hx.go hn3.below
 replace hP := hP.go hn3.below
 have hr4 : Rw g2 w1 (#[.iface 110 (.agg #[.slice a n c, .slice b m d]), .int .i64 ((l : Nat) : Int), .bool cb]) 88 := hn3.row
 refine rp 4 (.nilIface) ?_
 refine rp 5 (.bool false) ?_
 refine Zad ?_
 refine Zab ?_
 refine Zac ?_
 refine Zaa ?_
 refine rp 9 (.pointer (some ⟨g2, 0, none⟩)) ?_
 refine rv 10 (.iface 110 (.agg #[.slice a n c, .slice b m d])) (fun _ => Zag 47 _ ⟨g2, 0, none⟩ _ _ rfl (by kernel_rfl) (by rw [cell_of_row _ _ _ _ _ _ hr4]; rfl) Tryz.underlying47 rfl) ?_
 refine rp 11 (.tuple #[.agg (brc (fun _ => .nilIface) (.slice none 0 0)), .bool false]) ?_
 refine rp 8 (.tuple #[.agg (brc (fun _ => .nilIface) (.slice none 0 0)), .bool false]) ?_
 refine rp 12 (.agg (brc (fun _ => .nilIface) (.slice none 0 0))) ?_
 refine rp 13 (.bool false) ?_
 refine Zar 6 (brc (fun _ => .nilIface) (.slice none 0 0)) 116 (fun _ => by kernel_rfl) (fun _ => by kernel_rfl) ?_
 intro w5 g6 hn7
 have hr8 : Rw g6 w5 (brc (fun _ => .nilIface) (.slice none 0 0)) 116 := hn7.row
 refine Zav g6 (brc (fun _ => .nilIface) (.slice none 0 0)) (fun _ => by kernel_rfl) (fun _ => Zao 116 _ _ _ _ _ 116 rfl (by kernel_rfl) (by kernel_rfl) hr8 (by kernel_rfl) (by kernel_rfl) (Zbl (KA.none w))) ?_
 intro w9 hp10
 replace hn7 := hn7.put hp10
 clear hr8
 have hlg2g6 : g2 < g6 := by have := hr4.lt; have := hn7.hg; omega
 have hzg6 : w.heap.size ≤ g6 := by have := hB.size; have := hn7.hg; omega
 replace hB := hB.go hn7.below
 replace hp := hp.go hn7.below
 replace hx := hx.go hn7.below
 replace hP := hP.go hn7.below
 replace hr4 := hr4.go hn7.below
 have hr12 : Rw g6 w9 (brc (fun _ => .nilIface) (.slice none 0 0)) 116 := hn7.row
 refine rp 7 (.bool false) ?_
 refine Zad ?_
 refine Zab ?_
 refine Zac ?_
 refine Zac ?_
 refine Zaa ?_
 refine rp 14 (.bool false) ?_
 refine rp 15 (.bool true) ?_
 refine Zad ?_
 refine Zab ?_
 refine Zai (fun _ => by kernel_rfl) ?_
 refine Zac ?_
 refine Zaa ?_
 refine rp 4 (.nilIface) ?_
 refine rp 5 (.bool true) ?_
 refine Zad ?_
 refine Zab ?_
 refine Zap ?_
 refine Zah ?_
 refine Zae (.tuple #[.nilIface, .bool true]) (fun _ => by kernel_rfl) ?_
 exact ⟨_, rfl, hP, ⟨_, rfl, rfl⟩, TU.of hB⟩
set_option maxHeartbeats 1000000 in
theorem Zwv {t : Pt} {l : Nat} {t0 : Pt} (hP : PAt w g gK gU t0 kn us) (hp : Sk An w a n c p) (hn : n ≤ 140737488351232) (ht : ThA w t u)  : Calls Tryz.prog 43 #[.pointer (some ⟨g, 0, none⟩), .agg #[.iface 113 (.agg #[.slice a n c, u]), .int .i64 ((l : Nat) : Int), .bool cb]] w fun e w' => ∃ v', e = .returned v' ∧ RNm w g gK gU t0 kn us (some no) v' w' := by
 have hgP := hP.lt
 have hgK := hP.km.lt
 have hgU := hP.um.lt
 have hB : Bl w w := Bl.refl w
 refine Zaj Tryz.func43 rfl 24 rfl ?_
 show CW _ _ _ _ _ _ _ [(0, .pointer (some ⟨g, 0, none⟩)), (1, .agg #[.iface 113 (.agg #[.slice a n c, u]), .int .i64 ((l : Nat) : Int), .bool cb])] _
 refine Zac ?_
 refine Zaa ?_
 refine Zar 3 (#[.iface 113 (.agg #[.slice a n c, u]), .int .i64 ((l : Nat) : Int), .bool cb]) 88 (fun _ => by kernel_rfl) (fun _ => by kernel_rfl) ?_
 intro w1 g2 hn3
 have hzg2 : w.heap.size ≤ g2 := by have := hB.size; have := hn3.hg; omega
 replace hB := hB.go hn3.below
 replace hp := hp.go hn3.below
 replace ht := ht.go hn3.below
 replace hP := hP.go hn3.below
 have hr4 : Rw g2 w1 (#[.iface 113 (.agg #[.slice a n c, u]), .int .i64 ((l : Nat) : Int), .bool cb]) 88 := hn3.row
 refine rp 4 (.nilIface) ?_
 refine rp 5 (.bool false) ?_
 refine Zad ?_
 refine Zab ?_
 refine Zac ?_
 refine Zaa ?_
 refine rp 9 (.pointer (some ⟨g2, 0, none⟩)) ?_
 refine rv 10 (.iface 113 (.agg #[.slice a n c, u])) (fun _ => Zag 47 _ ⟨g2, 0, none⟩ _ _ rfl (by kernel_rfl) (by rw [cell_of_row _ _ _ _ _ _ hr4]; rfl) Tryz.underlying47 rfl) ?_
 refine rp 11 (.tuple #[.agg (brc (fun _ => .nilIface) (.slice none 0 0)), .bool false]) ?_
 refine rp 8 (.tuple #[.agg (brc (fun _ => .nilIface) (.slice none 0 0)), .bool false]) ?_
 refine rp 12 (.agg (brc (fun _ => .nilIface) (.slice none 0 0))) ?_
 refine rp 13 (.bool false) ?_
 refine Zar 6 (brc (fun _ => .nilIface) (.slice none 0 0)) 116 (fun _ => by kernel_rfl) (fun _ => by kernel_rfl) ?_
 intro w5 g6 hn7
 have hr8 : Rw g6 w5 (brc (fun _ => .nilIface) (.slice none 0 0)) 116 := hn7.row
 refine Zav g6 (brc (fun _ => .nilIface) (.slice none 0 0)) (fun _ => by kernel_rfl) (fun _ => Zao 116 _ _ _ _ _ 116 rfl (by kernel_rfl) (by kernel_rfl) hr8 (by kernel_rfl) (by kernel_rfl) (Zbl (KA.none w))) ?_
 intro w9 hp10
 replace hn7 := hn7.put hp10
 clear hr8
 have hlg2g6 : g2 < g6 := by have := hr4.lt; have := hn7.hg; omega
 have hzg6 : w.heap.size ≤ g6 := by have := hB.size; have := hn7.hg; omega
 replace hB := hB.go hn7.below
 replace hp := hp.go hn7.below
 replace ht := ht.go hn7.below
 replace hP := hP.go hn7.below
 replace hr4 := hr4.go hn7.below
 have hr12 : Rw g6 w9 (brc (fun _ => .nilIface) (.slice none 0 0)) 116 := hn7.row
 refine rp 7 (.bool false) ?_
 refine Zad ?_
 refine Zab ?_
 refine Zac ?_
 refine Zac ?_
 refine Zaa ?_
 refine rp 14 (.bool false) ?_
 refine rp 15 (.bool true) ?_
 refine Zad ?_
 refine Zab ?_
 refine Zai (fun _ => by kernel_rfl) ?_
 refine Zac ?_
 refine Zaa ?_
 refine rp 4 (.nilIface) ?_
 refine rp 5 (.bool true) ?_
 refine Zad ?_
 refine Zab ?_
 refine Zap ?_
 refine Zah ?_
 refine Zae (.tuple #[.nilIface, .bool true]) (fun _ => by kernel_rfl) ?_
 exact ⟨_, rfl, hP, ⟨_, rfl, rfl⟩, TU.of hB⟩
set_option maxHeartbeats 1000000 in
theorem wo_br {l : Nat} {t0 : Pt} (hP : PAt w g gK gU t0 kn us) (hk : KA w k vs) (hx : Sk An w a n c x) (hn : n ≤ 256)  (hl : l ≤ 64) (hw : ∀ i, i < 16 → Wg (k i) (l + 1)) : Calls Tryz.prog 43 #[.pointer (some ⟨g, 0, none⟩), .agg #[.iface 116 (.agg (brc vs (.slice a n c))), .int .i64 ((l : Nat) : Int), .bool cb]] w fun e w' => ∃ v', e = .returned v' ∧ RNm w g gK gU t0 kn (nrmU kn k [] l us) (nrmP kn k [] l) v' w' := by
 have hgP := hP.lt
 have hgK := hP.km.lt
 have hgU := hP.um.lt
 have hB : Bl w w := Bl.refl w
 refine Zaj Tryz.func43 rfl 24 rfl ?_
 show CW _ _ _ _ _ _ _ [(0, .pointer (some ⟨g, 0, none⟩)), (1, .agg #[.iface 116 (.agg (brc vs (.slice a n c))), .int .i64 ((l : Nat) : Int), .bool cb])] _
 refine Zac ?_
 refine Zaa ?_
 refine Zar 3 (#[.iface 116 (.agg (brc vs (.slice a n c))), .int .i64 ((l : Nat) : Int), .bool cb]) 88 (fun _ => by kernel_rfl) (fun _ => by kernel_rfl) ?_
 intro w1 g2 hn3
 have hzg2 : w.heap.size ≤ g2 := by have := hB.size; have := hn3.hg; omega
 replace hB := hB.go hn3.below
 replace hk := hk.go hn3.below
 replace hx := hx.go hn3.below
 replace hP := hP.go hn3.below
 have hr4 : Rw g2 w1 (#[.iface 116 (.agg (brc vs (.slice a n c))), .int .i64 ((l : Nat) : Int), .bool cb]) 88 := hn3.row
 refine rp 4 (.nilIface) ?_
 refine rp 5 (.bool false) ?_
 refine Zad ?_
 refine Zab ?_
 refine Zac ?_
 refine Zaa ?_
 refine rp 9 (.pointer (some ⟨g2, 0, none⟩)) ?_
 refine rv 10 (.iface 116 (.agg (brc vs (.slice a n c)))) (fun _ => Zag 47 _ ⟨g2, 0, none⟩ _ _ rfl (by kernel_rfl) (by rw [cell_of_row _ _ _ _ _ _ hr4]; rfl) Tryz.underlying47 rfl) ?_
 refine rp 11 (.tuple #[.agg (brc vs (.slice a n c)), .bool true]) ?_
 refine rp 8 (.tuple #[.agg (brc vs (.slice a n c)), .bool true]) ?_
 refine rp 12 (.agg (brc vs (.slice a n c))) ?_
 refine rp 13 (.bool true) ?_
 refine Zar 6 (brc (fun _ => .nilIface) (.slice none 0 0)) 116 (fun _ => by kernel_rfl) (fun _ => by kernel_rfl) ?_
 intro w5 g6 hn7
 have hr8 : Rw g6 w5 (brc (fun _ => .nilIface) (.slice none 0 0)) 116 := hn7.row
 refine Zav g6 (brc vs (.slice a n c)) (fun _ => by kernel_rfl) (fun _ => Zao 116 _ _ _ _ _ 116 rfl (by kernel_rfl) (by kernel_rfl) hr8 (by kernel_rfl) (by kernel_rfl) (Zbl hk)) ?_
 intro w9 hp10
 replace hn7 := hn7.put hp10
 clear hr8
 have hlg2g6 : g2 < g6 := by have := hr4.lt; have := hn7.hg; omega
 have hzg6 : w.heap.size ≤ g6 := by have := hB.size; have := hn7.hg; omega
 replace hB := hB.go hn7.below
 replace hk := hk.go hn7.below
 replace hx := hx.go hn7.below
 replace hP := hP.go hn7.below
 replace hr4 := hr4.go hn7.below
 have hr12 : Rw g6 w9 (brc vs (.slice a n c)) 116 := hn7.row
 refine rp 7 (.bool true) ?_
 refine Zad ?_
 refine Zab ?_
 refine Zac ?_
 refine Zac ?_
 refine Zaa ?_
 refine rp 14 (.bool true) ?_
 refine rp 15 (.bool false) ?_
 refine Zad ?_
 refine Zab ?_
 refine Zaf (fun _ => by kernel_rfl) ?_
 refine Zam ?_
 refine Zab ?_
 refine Zac ?_
 refine Zaa ?_
 refine rp 16 (.pointer (some ⟨g6, 16, none⟩)) ?_
 refine Zb0 g6 (16) (.slice none 0 0) (fun _ => by kernel_rfl) (fun _ => Zbr 29 _ _ g6 _ _ 116 _ hr12 rfl (by kernel_rfl) (by kernel_rfl) (by show 16 < 17; omega) rfl rfl (by kernel_rfl)) ?_
 intro w13 hs14
 have hnt15 := Nt.rows hr12 (Zdi hk) hs14.touch
 replace hB := hB.tou hs14.touch hzg6
 replace hk := hk.nt hnt15
 replace hx := hx.nt hnt15
 replace hP := hP.keep hnt15 (hs14.touch.block _ hP.lt (by omega)) (hs14.touch.block _ hP.km.lt (by omega)) (hP.um.keep (hs14.touch.block _ hP.um.lt (by omega)))
 replace hr4 := hr4.past hs14.touch (by omega)
 replace hr12 := hr12.set (cells' := (brc vs (.slice none 0 0))) hs14 (by kernel_rfl)
 refine Zad ?_
 refine Zab ?_
 refine Zac ?_
 refine Zaa ?_
 refine rp 17 (.pointer (some ⟨g, 0, none⟩)) ?_
 refine rv 18 (.agg (brc vs (.slice none 0 0))) (fun _ => Za2 116 _ _ _ _ _ _ rfl (by kernel_rfl) hr12 Tryz.underlying116 rfl (by kernel_rfl)) ?_
 refine rp 19 (.pointer (some ⟨g2, 1, none⟩)) ?_
 refine rv 20 (.int .i64 ((l : Nat) : Int)) (fun _ => Zag 3 _ ⟨g2, 1, none⟩ _ _ rfl (by kernel_rfl) (by rw [cell_of_row _ _ _ _ _ _ hr4]; rfl) Tryz.underlying3 rfl) ?_
 refine Zak 21 63 #[.pointer (some ⟨g, 0, none⟩), .agg (brc vs (.slice none 0 0)), .int .i64 ((l : Nat) : Int)] (fun _ => by kernel_rfl) (fun _ => by kernel_rfl) (R := RNm w13 g gK gU t0 kn (nrmU kn k [] l us) (nrmP kn k [] l)) (by exact (Zc4 hP hk (Sk.nil _ _) (by omega) hl hw)) ?_
 intro u17 w16 h18
 obtain ⟨hP9, hm9, hT9⟩ := h18
 have hres : ∃ v9 b9, u17 = .tuple #[v9, .bool b9] := by
  cases hq : nrmP kn k [] l with
  | none => rw [hq] at hm9; exact ⟨_, _, hm9⟩
  | some t => rw [hq] at hm9; obtain ⟨v9, e9, _⟩ := hm9; exact ⟨_, _, e9⟩
 obtain ⟨v9, b9, rfl⟩ := hres
 refine rp 22 (v9) ?_
 refine rp 23 (.bool b9) ?_
 refine rp 4 (v9) ?_
 refine rp 5 (.bool b9) ?_
 refine Zad ?_
 refine Zab ?_
 refine Zap ?_
 refine Zae (.tuple #[v9, .bool b9]) (fun _ => by kernel_rfl) ?_
 exact ⟨_, rfl, hP9, hm9, (TU.of hB).trans hT9⟩
theorem Zn1 {v : Value} {t0 : Pt} (hP : PAt w g gK gU t0 kn us) (h : ThA w s.t v) (hw : Wg s.t s.l) : Calls Tryz.prog 43 #[.pointer (some ⟨g, 0, none⟩), .agg #[v, .int .i64 ((s.l : Nat) : Int), .bool s.c]] w fun e w' => ∃ v', e = .returned v' ∧ RNm w g gK gU t0 kn (woU kn s us) (woP kn s) v' w' := by
 obtain ⟨t, l, cb⟩ := s
 unfold woP woU
 cases t with
 | no => obtain rfl : v = .nilIface := h; exact wo_no hP
 | st d => obtain ⟨rfl, hd, _⟩ := h; exact wo_st hP hd
 | leaf p x => obtain ⟨a, n, c, b, m, d, rfl, hp, hx, hm, hn⟩ := h; exact Zum hP hp hx hm hn
 | ext p t => obtain ⟨a, n, c, u, rfl, hp, hn, ht⟩ := h; exact Zwv hP hp hn ht
 | br k x => obtain ⟨vs, a, n, c, rfl, hk, hx, hn⟩ := h; exact wo_br hP hk hx hn hw.1 hw.2
theorem WayR.tu {v : World} (h : WayR w a n c ws) (ht : TU gU w v) (hu : ∃ es clock, w.heap[gU]? = some (.map es clock)) : WayR v a n c ws := by
 refine ⟨h.len, h.le, fun j s hs => ?_⟩
 obtain ⟨g, off, u, h1, h2, h3⟩ := h.row j s hs
 refine ⟨g, off, u, h1, fun i x hx => ?_, h3.nt ht.n⟩
 have hc := h2 i x hx
 have hlt : g < w.heap.size := block_lt_of_cell hc
 have hne : g ≠ gU := fun e => by
  obtain ⟨es, clock, hm⟩ := hu
  rw [e] at hc
  simp [World.cell?, hm] at hc
 exact (World.cell?_of_block (w := w) (ht.t.block g hlt hne)).trans hc
theorem MUs.map (h : MUs w m us) : ∃ es clock, w.heap[m]? = some (.map es clock) := by
 obtain ⟨es, clock, h1, _⟩ := h
 exact ⟨es, clock, h1⟩
theorem WayR.take (h : WayR w a n c ws) (k : Nat) (hk : k ≤ n) : WayR w a k c (ws.take k) := by
 refine ⟨by rw [List.length_take, ← h.len]; omega, ⟨by have := h.le; omega, h.le.2⟩, fun j s hs => ?_⟩
 rw [List.getElem?_take] at hs
 split at hs
 ·exact h.row j s hs
 ·cases hs
structure T2 (g gU : Nat) (w v : World) : Prop where
  os : v.os = w.os
  tape : v.tape = w.tape
  output : v.output = w.output
  size : w.heap.size ≤ v.heap.size
  block : ∀ k, k < w.heap.size → k ≠ g → k ≠ gU → v.heap[k]? = w.heap[k]?
  n : Nt w v
theorem T2.of {v : World} (h : TU gU w v) : T2 g gU w v := ⟨h.t.os, h.t.tape, h.t.output, h.t.size, fun k hk _ hne => h.t.block k hk hne, h.n⟩
theorem T2.trans {v u : World} (h : T2 g gU w v) (h2 : T2 g gU v u) : T2 g gU w u :=
  ⟨h2.os.trans h.os, h2.tape.trans h.tape, h2.output.trans h.output, Nat.le_trans h.size h2.size, fun k hk n1 n2 => (h2.block k (Nat.lt_of_lt_of_le hk h.size) n1 n2).trans (h.block k hk n1 n2), h.n.trans h2.n⟩
theorem T2.set {v u : World} (h : TU gU w v) (ht : Touch g v u) (hn : Nt v u) : T2 g gU w u :=
  ⟨ht.os.trans h.t.os, ht.tape.trans h.t.tape, ht.output.trans h.t.output, Nat.le_trans h.t.size ht.size, fun k hk n1 n2 => (ht.block k (Nat.lt_of_lt_of_le hk h.t.size) n1).trans (h.t.block k hk n2), h.n.trans hn⟩
def RRm (w : World) (g gK gU : Nat) (t0 : Pt) (kn : Kn) (us : List (List Int)) (r : Option Pt) : Value → World → Prop := fun u w' => (match r with
  | none => u = .int .i64 2 ∧ PAt w' g gK gU t0 kn us
  | some t => u = .int .i64 0 ∧ PAt w' g gK gU t kn us) ∧ T2 g gU w w'
structure RX where
  j : Nat
  t : Pt
  v : Value
theorem Zrv {j : Nat} (h : ws[j]? = some s) : (ws.take (j + 1)).reverse = s :: (ws.take j).reverse := by
 have hj := (List.getElem?_eq_some_iff.1 h).1
 rw [List.take_add_one, h]
 simp
def remU (kn : Kn) (path : List Int) : List Sp → Pt → List (List Int) → List (List Int)
  | [], _, us => us
  | s :: r, t, us => match s.t with
    | ext p _ => remU kn path r (und p t) us
    | br k x => match nrmP kn (upd k (path.getD s.l 0).toNat t) x s.l with
      | none => nrmU kn (upd k (path.getD s.l 0).toNat t) x s.l us
      | some u => remU kn path r u (nrmU kn (upd k (path.getD s.l 0).toNat t) x s.l us)
    | _ => remU kn path r t us
def RmI (w : World) (g gK gU : Nat) (t0 : Pt) (kn : Kn) (e : Option Addr) (m2 d2 : Nat) (q : List Int) (ws : List Sp) (RES : Option Pt) (RU : List (List Int)) (x : RX) (v : World) : Prop :=
  TU gU w v ∧ (∃ us, PAt v g gK gU t0 kn us ∧ RU = remU kn q (ws.take x.j).reverse x.t us) ∧ Sk An v e m2 d2 q ∧ x.j ≤ ws.length ∧ ThA v x.t x.v ∧ RES = remP kn q (ws.take x.j).reverse x.t ∧ ∃ l, Desc q (ws.take x.j).reverse l ∧ Wg x.t l
theorem Zba {w' : World} {o : Nat} {cs : List Value} (h : w.rangeAt g o cs) (hb : Below w.heap.size w w') : w'.rangeAt g o cs := fun j v hv => Zaw hb (h j v hv)
set_option maxHeartbeats 1000000 in
theorem Zdy {t0 : Pt} (hP : PAt w g gK gU t0 kn us) {aw e : Option Addr} {nw cw m2 d2 l0 : Nat} {t : Pt} (hW : WayR w aw nw cw ws) (hq : Sk An w e m2 d2 q) (hm2 : m2 ≤ 64) (hqn : nibs q) (ht : ThA w t u) (hws : ws.length ≤ 1000) (hD : Desc q ws.reverse l0) (hwt : Wg t l0) : Calls Tryz.prog 39 #[.pointer (some ⟨g, 0, none⟩), .slice aw nw cw, .slice e m2 d2, u] w fun e w' => ∃ v', e = .returned v' ∧ RRm w g gK gU t0 kn (remU kn q ws.reverse t us) (remP kn q ws.reverse t) v' w' := by
 have hql := hq.len
 have hgP := hP.lt
 have hgK := hP.km.lt
 have hgU := hP.um.lt
 have hmap := hP.um.map
 have hKU := hP.ne
 have hgneU := hP.neU
 have hgneK := hP.neK
 obtain rfl : nw = ws.length := hW.len
 obtain ⟨RES, hRES⟩ : ∃ r, remP kn q ws.reverse t = r := ⟨_, rfl⟩
 rw [hRES]
 obtain ⟨RU, hRU⟩ : ∃ r, remU kn q ws.reverse t us = r := ⟨_, rfl⟩
 rw [hRU]
 have hB : Bl w w := Bl.refl w
 refine Zaj Tryz.func39 rfl 65 rfl ?_
 show CW _ _ _ _ _ _ _ [(0, .pointer (some ⟨g, 0, none⟩)), (1, .slice aw ws.length cw), (2, .slice e m2 d2), (3, u)] _
 refine Zac ?_
 refine Zaa ?_
 refine rp 8 (.int .i64 0) ?_
 refine Zad ?_
 refine Zab ?_
 refine Zac ?_
 refine Zac ?_
 refine Zaa ?_
 refine rp 14 (.slice aw ws.length cw) ?_
 refine rp 15 (.int .i64 ((ws.length : Nat) : Int)) ?_
 refine rv 16 (.int .i64 (((ws.length : Nat) : Int) - 1)) (fun _ => Zal (v := .int .i64 (IntKind.i64.wrap (((ws.length : Nat) : Int) - 1))) (by kernel_rfl) (congrArg (Value.int .i64) (Zbc (by omega) (by omega)))) ?_
 refine rp 9 (.int .i64 (((ws.length : Nat) : Int) - 1)) ?_
 refine Zad ?_
 refine Zab ?_
 refine Zan ?_
 refine Zb8 (X := RX) (fun x => [(9, .int .i64 (((x.j : Nat) : Int) - 1)), (3, x.v), (0, .pointer (some ⟨g, 0, none⟩)), (1, .slice aw ws.length cw), (2, .slice e m2 d2)]) (RmI w g gK gU t0 kn e m2 d2 q ws RES RU) (fun x => x.j) ⟨ws.length, t, u⟩ (by exact ⟨fun _ => by kernel_rfl, ⟨fun _ => by kernel_rfl, ⟨fun _ => by kernel_rfl, ⟨fun _ => by kernel_rfl, ⟨fun _ => by kernel_rfl, trivial⟩⟩⟩⟩⟩) ⟨TU.of hB, ⟨_, hP, by simp only; rw [List.take_length]; exact hRU.symm⟩, hq, Nat.le_refl _, ht, by simp only; rw [List.take_length]; exact hRES.symm, l0, by simp only; rw [List.take_length]; exact hD, hwt⟩ ?_
 have hW0 := hW
 clear hB hP hq ht hRES hRU hD hwt
 rintro ⟨j, t, u⟩ v ⟨hB, ⟨us1, hP, hru⟩, hq, hj, ht, hres, l1, hD, hwt⟩
 simp only at *
 show CW _ _ _ _ _ _ _ [(9, .int .i64 (((j : Nat) : Int) - 1)), (3, u), (0, .pointer (some ⟨g, 0, none⟩)), (1, .slice aw ws.length cw), (2, .slice e m2 d2)] _
 cases j with
 | zero =>
  refine Zac ?_
  refine Zac ?_
  refine Zaa ?_
  refine rp 17 (.int .i64 (((0 : Nat) : Int) - 1)) ?_
  refine rv 18 (.bool false) (fun _ => Zal (v := .bool (decide ((((0 : Nat) : Int) - 1 : Int) ≥ (0 : Int)))) (by kernel_rfl) (congrArg Value.bool (decide_eq_false (by omega)))) ?_
  refine Zad ?_
  refine Zab ?_
  refine Zaf (fun _ => by kernel_rfl) ?_
  refine Zb1 ?_
  refine Zat ?_
  refine Zat ?_
  refine Za1 ?_
  refine Zab ?_
  refine Zac ?_
  obtain rfl : l1 = 0 := hD
  have hwt0 : Wg t 0 := hwt
  replace hres : RES = some t := hres
  replace hru : RU = us1 := hru
  refine Zaa ?_
  refine rp 61 (.pointer (some ⟨g, 0, none⟩)) ?_
  refine rp 62 (u) ?_
  refine rp 63 (.pointer (some ⟨g, 0, none⟩)) ?_
  refine rp 64 (.pointer (some ⟨g, 0, none⟩)) ?_
  obtain ⟨vt, hrt, htt⟩ := hP.row
  have hk9 := hP.km
  have hu9 := hP.um
  have hok9 := hP.ok
  refine Zb0 g (0) (u) (fun _ => by kernel_rfl) (fun _ => Zbr 47 _ _ g _ _ 49 _ hrt rfl (by kernel_rfl) (by kernel_rfl) (by show 0 < 3; omega) ht.cells ht.one (by kernel_rfl)) ?_
  intro w9 hs9
  have hnt9 := Nt.rows hrt (nob3 htt (fun _ e => by cases e) (fun _ e => by cases e)) hs9.touch
  have hrt9 := hrt.set (cells' := #[u, .map (some gK), .map (some gU)]) hs9 (by kernel_rfl)
  have hP9 : PAt w9 g gK gU t kn us1 := ⟨⟨_, hrt9, ht.nt hnt9⟩, hk9.keep hnt9 (hs9.touch.block _ hk9.lt (by omega)), hu9.keep (hs9.touch.block _ hu9.lt (by omega)), hKU, hwt0, hok9⟩
  have hT9 := T2.set hB hs9.touch hnt9
  refine Zad ?_
  refine Zab ?_
  refine Zac ?_
  refine Zaa ?_
  refine rp 8 (.int .i64 0) ?_
  refine Zad ?_
  refine Zab ?_
  refine Zap ?_
  refine Zae (.int .i64 0) (fun _ => by kernel_rfl) ?_
  rw [hres, hru]
  exact ⟨_, rfl, ⟨rfl, hP9⟩, hT9⟩
 | succ j =>
  obtain ⟨s1, hs1⟩ : ∃ s1, ws[j]? = some s1 := ⟨ws[j]'(by omega), List.getElem?_eq_getElem (by omega)⟩
  rw [Zrv hs1] at hres hD hru
  obtain ⟨hD1, hD2, hD3, hD4⟩ := hD
  have hWv := hW0.tu hB hmap
  obtain ⟨gw, ow, uw, rfl, hrw, huw⟩ := hWv.row j s1 hs1
  have hje : (((j + 1 : Nat) : Int) - 1) = ((j : Nat) : Int) := by omega
  rw [hje]
  show CW _ _ _ _ _ _ _ [(9, .int .i64 ((j : Nat) : Int)), (3, u), (0, .pointer (some ⟨g, 0, none⟩)), (1, .slice (some ⟨gw, ow, none⟩) ws.length cw), (2, .slice e m2 d2)] _
  unfold remP at hres
  unfold remU at hru
  obtain ⟨ts, ls, cs⟩ := s1
  simp only at *
  cases ts with
  | no =>
   exact hD2.elim
  | st d =>
   exact hD2.elim
  | leaf p x =>
   exact hD2.elim
  | ext p cc =>
   simp only at hres hD2 hru
   obtain ⟨a, n, c, uc, rfl, hp, hn, htc⟩ := huw
   have hpl := hp.len
   refine Zac ?_
   refine Zac ?_
   refine Zaa ?_
   refine rp 17 (.int .i64 ((j : Nat) : Int)) ?_
   refine rv 18 (.bool true) (fun _ => Zal (v := .bool (decide (((j : Nat) : Int) ≥ (0 : Int)))) (by kernel_rfl) (congrArg Value.bool (decide_eq_true (by omega)))) ?_
   refine Zad ?_
   refine Zab ?_
   refine Zai (fun _ => by kernel_rfl) ?_
   refine Zam ?_
   refine Zab ?_
   refine Zac ?_
   refine Zan ?_
   refine Zac ?_
   refine Zaa ?_
   refine rp 21 (.slice (some ⟨gw, ow, none⟩) ws.length cw) ?_
   refine rp 22 (.int .i64 ((j : Nat) : Int)) ?_
   refine rv 23 (.pointer (some ⟨gw, ow + j * 3, none⟩)) (fun _ => Za0 84 _ _ gw ow j ws.length cw 3 88 rfl (by kernel_rfl) (by kernel_rfl) (by omega) Tryz.underlying84 (by kernel_rfl)) ?_
   refine rp 24 (.pointer (some ⟨gw, ow + j * 3, none⟩)) ?_
   refine rv 25 (.iface 113 (.agg #[.slice a n c, uc])) (fun _ => Zag 47 _ ⟨gw, ow + j * 3, none⟩ _ _ rfl (by kernel_rfl) (hrw 0 _ rfl) Tryz.underlying47 rfl) ?_
   refine Zad ?_
   refine Zab ?_
   refine Zan ?_
   refine Zac ?_
   refine Zaa ?_
   refine rp 26 (.tuple #[.agg #[.slice a n c, uc], .bool true]) ?_
   refine rp 27 (.bool true) ?_
   refine rp 28 (.agg #[.slice a n c, uc]) ?_
   refine Zad ?_
   refine Zab ?_
   refine Zai (fun _ => by kernel_rfl) ?_
   refine Zac ?_
   refine Zaa ?_
   refine Zar 10 (#[.slice none 0 0, .nilIface]) 113 (fun _ => by kernel_rfl) (fun _ => by kernel_rfl) ?_
   intro w1 g2 hn3
   have hr4 : Rw g2 w1 (#[.slice none 0 0, .nilIface]) 113 := hn3.row
   refine Zav g2 (#[.slice a n c, uc]) (fun _ => by kernel_rfl) (fun _ => Zao 113 _ _ _ _ _ 113 rfl (by kernel_rfl) (by kernel_rfl) hr4 (by kernel_rfl) (by kernel_rfl) (one2 rfl htc.one)) ?_
   intro w5 hp6
   replace hn3 := hn3.put hp6
   clear hr4
   have hzg2 : w.heap.size ≤ g2 := by have := hB.size; have := hn3.hg; omega
   replace hB := hB.go hn3.below
   replace hP := hP.go hn3.below
   replace hq := hq.go hn3.below
   replace ht := ht.go hn3.below
   replace hrw := Zba hrw hn3.below
   replace hp := hp.go hn3.below
   replace htc := htc.go hn3.below
   have hr8 : Rw g2 w5 (#[.slice a n c, uc]) 113 := hn3.row
   refine Zad ?_
   refine Zab ?_
   refine Zaa ?_
   refine rp 29 (u) ?_
   refine rp 30 (.pointer (some ⟨g2, 0, none⟩)) ?_
   refine rv 31 (.slice a n c) (fun _ => Zag 29 _ ⟨g2, 0, none⟩ _ _ rfl (by kernel_rfl) (by rw [cell_of_row _ _ _ _ _ _ hr8]; rfl) Tryz.underlying29 rfl) ?_
   refine Zak 32 62 #[u, .slice a n c] (fun _ => by kernel_rfl) (fun _ => by kernel_rfl) (R := RTh w5 (und p t)) (Zdn (l := l1) ht hwt hp (by have := hD3.1; omega)) ?_
   rintro u9 w10 ⟨ht11, hb12⟩
   replace hB := hB.go hb12
   replace hP := hP.go hb12
   replace hq := hq.go hb12
   replace ht := ht.go hb12
   replace hrw := Zba hrw hb12
   replace hp := hp.go hb12
   replace htc := htc.go hb12
   replace hr8 := hr8.go hb12
   refine rp 3 (u9) ?_
   refine Zad ?_
   refine Zau ?_
   refine Zau ?_
   refine Zab ?_
   refine Zaa ?_
   refine rp 19 (.int .i64 ((j : Nat) : Int)) ?_
   refine rv 20 (.int .i64 (((j : Nat) : Int) - 1)) (fun _ => Zal (v := .int .i64 (IntKind.i64.wrap (((j : Nat) : Int) - 1))) (by kernel_rfl) (congrArg (Value.int .i64) (Zbc (by omega) (by omega)))) ?_
   refine rp 9 (.int .i64 (((j : Nat) : Int) - 1)) ?_
   refine Zad ?_
   exact Za7 (E := fun x => [(9, .int .i64 (((x.j : Nat) : Int) - 1)), (3, x.v), (0, .pointer (some ⟨g, 0, none⟩)), (1, .slice (some ⟨gw, ow, none⟩) ws.length cw), (2, .slice e m2 d2)]) (R := RmI w g gK gU t0 kn e m2 d2 q ws RES RU) (μ := fun x => x.j) (x := ⟨j + 1, t, u⟩) ⟨j, und p t, u9⟩ (by exact ⟨fun _ => by kernel_rfl, ⟨fun _ => by kernel_rfl, ⟨fun _ => by kernel_rfl, ⟨fun _ => by kernel_rfl, ⟨fun _ => by kernel_rfl, trivial⟩⟩⟩⟩⟩) ⟨hB, ⟨_, hP, hru⟩, hq, by simp only; omega, ht11, hres, ls, hD4, (Zlk (by rw [← hD2]; exact hwt) hD3.1 hD3.2.1)⟩ (by simp only; omega)
  | br k x =>
   simp only at hres hD2 hru
   obtain ⟨vs, a, n, c, rfl, hk0, hx, hn⟩ := huw
   have hk : KA v k vs := hk0
   clear hk0
   have hlq : ls < q.length := hD2.2
   obtain ⟨gq, oq, rfl, _, _, hcs⟩ := ag_head hq.ag (by omega)
   have hcq := hcs ls (by omega)
   have hi16 := hqn (q.getD ls 0) (by rw [List.getD, List.getElem?_eq_getElem hlq]; exact List.getElem_mem _)
   obtain ⟨i, hie⟩ : ∃ i, q.getD ls 0 = i := ⟨_, rfl⟩
   rw [hie] at hcq hi16 hres hru
   have hit : i.toNat < 16 := by omega
   cases hnm : nrmP kn (Pt.upd k i.toNat t) x ls with
   | none =>
    rw [hnm] at hres hru
    simp only at hres hru
    refine Zac ?_
    refine Zac ?_
    refine Zaa ?_
    refine rp 17 (.int .i64 ((j : Nat) : Int)) ?_
    refine rv 18 (.bool true) (fun _ => Zal (v := .bool (decide (((j : Nat) : Int) ≥ (0 : Int)))) (by kernel_rfl) (congrArg Value.bool (decide_eq_true (by omega)))) ?_
    refine Zad ?_
    refine Zab ?_
    refine Zai (fun _ => by kernel_rfl) ?_
    refine Zam ?_
    refine Zab ?_
    refine Zac ?_
    refine Zan ?_
    refine Zac ?_
    refine Zaa ?_
    refine rp 21 (.slice (some ⟨gw, ow, none⟩) ws.length cw) ?_
    refine rp 22 (.int .i64 ((j : Nat) : Int)) ?_
    refine rv 23 (.pointer (some ⟨gw, ow + j * 3, none⟩)) (fun _ => Za0 84 _ _ gw ow j ws.length cw 3 88 rfl (by kernel_rfl) (by kernel_rfl) (by omega) Tryz.underlying84 (by kernel_rfl)) ?_
    refine rp 24 (.pointer (some ⟨gw, ow + j * 3, none⟩)) ?_
    refine rv 25 (.iface 116 (.agg (brc vs (.slice a n c)))) (fun _ => Zag 47 _ ⟨gw, ow + j * 3, none⟩ _ _ rfl (by kernel_rfl) (hrw 0 _ rfl) Tryz.underlying47 rfl) ?_
    refine Zad ?_
    refine Zab ?_
    refine Zan ?_
    refine Zac ?_
    refine Zaa ?_
    refine rp 26 (.tuple #[.agg (#[.slice none 0 0, .nilIface]), .bool false]) ?_
    refine rp 27 (.bool false) ?_
    refine rp 28 (.agg (#[.slice none 0 0, .nilIface])) ?_
    refine Zad ?_
    refine Zab ?_
    refine Zaf (fun _ => by kernel_rfl) ?_
    refine Zac ?_
    refine Zaa ?_
    refine rp 33 (.tuple #[.agg (brc vs (.slice a n c)), .bool true]) ?_
    refine rp 34 (.bool true) ?_
    refine rp 35 (.agg (brc vs (.slice a n c))) ?_
    refine Zad ?_
    refine Zab ?_
    refine Zai (fun _ => by kernel_rfl) ?_
    refine Zac ?_
    refine Zaa ?_
    refine Zar 11 (brc (fun _ => .nilIface) (.slice none 0 0)) 116 (fun _ => by kernel_rfl) (fun _ => by kernel_rfl) ?_
    intro w13 g14 hn15
    have hr16 : Rw g14 w13 (brc (fun _ => .nilIface) (.slice none 0 0)) 116 := hn15.row
    refine Zav g14 (brc vs (.slice a n c)) (fun _ => by kernel_rfl) (fun _ => Zao 116 _ _ _ _ _ 116 rfl (by kernel_rfl) (by kernel_rfl) hr16 (by kernel_rfl) (by kernel_rfl) (Zbl hk)) ?_
    intro w17 hp18
    replace hn15 := hn15.put hp18
    clear hr16
    have hzg14 : w.heap.size ≤ g14 := by have := hB.size; have := hn15.hg; omega
    replace hB := hB.go hn15.below
    replace hP := hP.go hn15.below
    replace hq := hq.go hn15.below
    replace ht := ht.go hn15.below
    replace hrw := Zba hrw hn15.below
    replace hk := hk.go hn15.below
    replace hx := hx.go hn15.below
    replace hcq := Zdh hcq hn15.below
    have hr20 : Rw g14 w17 (brc vs (.slice a n c)) 116 := hn15.row
    refine Zad ?_
    refine Zab ?_
    refine Zac ?_
    refine Zaa ?_
    refine rp 36 (.slice (some ⟨gq, oq, none⟩) m2 d2) ?_
    refine rp 37 (.slice (some ⟨gw, ow, none⟩) ws.length cw) ?_
    refine rp 38 (.int .i64 ((j : Nat) : Int)) ?_
    refine rv 39 (.pointer (some ⟨gw, ow + j * 3, none⟩)) (fun _ => Za0 84 _ _ gw ow j ws.length cw 3 88 rfl (by kernel_rfl) (by kernel_rfl) (by omega) Tryz.underlying84 (by kernel_rfl)) ?_
    refine rp 40 (.pointer (some ⟨gw, ow + j * 3 + 1, none⟩)) ?_
    refine rv 41 (.int .i64 ((ls : Nat) : Int)) (fun _ => Zag 3 _ ⟨gw, ow + j * 3 + 1, none⟩ _ _ rfl (by kernel_rfl) (hrw 1 _ rfl) Tryz.underlying3 rfl) ?_
    refine rv 42 (.pointer (some ⟨gq, oq + ls * 1, none⟩)) (fun _ => Za0 29 _ _ gq oq ls m2 d2 1 5 rfl (by kernel_rfl) (by kernel_rfl) (by omega) Tryz.underlying29 (by kernel_rfl)) ?_
    refine rv 43 (.int .u8 i) (fun _ => Zag 5 _ ⟨gq, oq + ls * 1, none⟩ _ _ rfl (by kernel_rfl) (by rw [Nat.mul_one]; exact hcq) Tryz.underlying5 rfl) ?_
    refine rp 44 (u) ?_
    refine rp 45 (.pointer (some ⟨g14, 0, none⟩)) ?_
    refine rv 46 (.pointer (some ⟨g14, 0 + i.toNat * 1, none⟩)) (fun _ => Zb5 (kd := .u8) 114 _ _ g14 0 i.toNat 16 1 47 rfl (by kernel_rfl) (by show Value.int .u8 i = _; rw [Int.toNat_of_nonneg hi16.1]) hit (by omega) Tryz.underlying114 (by kernel_rfl)) ?_
    refine Zb0 g14 (0 + i.toNat * 1) (u) (fun _ => by kernel_rfl) (fun _ => Zbr 47 _ _ g14 _ _ 116 _ hr20 rfl (by kernel_rfl) (by kernel_rfl) (by show 0 + i.toNat * 1 < 17; omega) ht.cells ht.one (by kernel_rfl)) ?_
    intro w21 hs22
    have hnt23 := Nt.rows hr20 (Zdi hk) hs22.touch
    replace hB := hB.tou hs22.touch hzg14 hnt23
    replace hP := hP.keep hnt23 (hs22.touch.block _ hP.lt (by omega)) (hs22.touch.block _ hP.km.lt (by omega)) (hP.um.keep (hs22.touch.block _ hP.um.lt (by omega)))
    replace hq := hq.nt hnt23
    replace ht := ht.nt hnt23
    replace hk := hk.nt hnt23
    replace hx := hx.nt hnt23
    replace hr20 := hr20.set (cells' := (brc (updv vs i.toNat u) (.slice a n c))) hs22 (by rw [Nat.zero_add, Nat.mul_one]; exact Zg8 _ _ _ _ hit)
    have hk9 := hk.put (i := i.toNat) ht
    have hrw9 := (hW0.tu hB hmap).row j _ hs1
    obtain ⟨gw9, ow9, uw9, e9, hrw, _⟩ := hrw9
    cases e9
    refine Zad ?_
    refine Zab ?_
    refine Zac ?_
    refine Zbd (fun v => True) (by kernel_rfl) (trivial) ?_
    replace hB := hB.go (Below.refl _ _).drew
    replace hP := hP.go (Below.refl _ _).drew
    replace hq := hq.go (Below.refl _ _).drew
    replace ht := ht.go (Below.refl _ _).drew
    replace hk := hk.go (Below.refl _ _).drew
    replace hx := hx.go (Below.refl _ _).drew
    replace hr20 := hr20.go (Below.refl _ _).drew
    replace hk9 := hk9.go (Below.refl _ _).drew
    replace hrw := Zba hrw (Below.refl _ _).drew
    refine dt 0 48 (.pointer (some ⟨g, 0, none⟩)) (fun v hv _ => by kernel_rfl) trivial ?_
    refine dt 2 50 (.slice (some ⟨gw, ow, none⟩) ws.length cw) (fun v hv _ => by kernel_rfl) trivial ?_
    refine dt 3 51 (.int .i64 ((j : Nat) : Int)) (fun v hv _ => by kernel_rfl) trivial ?_
    refine dt 4 52 (.pointer (some ⟨gw, ow + j * 3, none⟩)) (fun v hv _ => Za0 84 _ _ gw ow j ws.length cw 3 88 rfl (by kernel_rfl) (by kernel_rfl) (by omega) Tryz.underlying84 (by kernel_rfl)) trivial ?_
    refine dt 5 53 (.pointer (some ⟨gw, ow + j * 3 + 1, none⟩)) (fun v hv _ => by kernel_rfl) trivial ?_
    refine Zas [1, 6] (by kernel_rfl) (by simp) ?_
    refine ar_v 1 49 (.agg (brc (updv vs i.toNat u) (.slice a n c))) rfl (fun _ => by kernel_rfl) (fun _ => Za2 116 _ _ _ _ _ _ rfl (by kernel_rfl) hr20 Tryz.underlying116 rfl (by kernel_rfl)) trivial ?_ ?_
    ·skip
     refine Zas [6] (by kernel_rfl) (by simp) ?_
     refine ar_v 6 54 (.int .i64 ((ls : Nat) : Int)) rfl (fun _ => by kernel_rfl) (fun _ => Zag 3 _ ⟨gw, ow + j * 3 + 1, none⟩ _ _ rfl (by kernel_rfl) (hrw 1 _ rfl) Tryz.underlying3 rfl) trivial ?_ Zaz
     refine Zas [7] (by kernel_rfl) (by simp) ?_
     refine Za5 7 55 63 #[.pointer (some ⟨g, 0, none⟩), .agg (brc (updv vs i.toNat u) (.slice a n c)), .int .i64 ((ls : Nat) : Int)] rfl (fun _ => by kernel_rfl) (fun _ => by kernel_rfl) (R := RNm w21.drew g gK gU t0 kn _ none) (by have := Zc4 hP hk9 hx (by omega) hD3.1 (Zd7 hD3.2 (by rw [← hD2.1]; exact hwt)); rw [hnm] at this; exact this) (fun _ _ _ => trivial) ?_ Zaz
     rintro _ w24 ⟨hP26, rfl, hT27⟩
     replace hB := hB.trans hT27
     replace hP := hP26
     replace hq := hq.nt hT27.n
     replace ht := ht.nt hT27.n
     replace hk := hk.nt hT27.n
     replace hx := hx.nt hT27.n
     replace hr20 := hr20.past hT27.t (by omega)
     replace hk9 := hk9.nt hT27.n
     refine dt 8 47 (.tuple #[.nilIface, .bool false]) (fun v hv _ => by kernel_rfl) trivial ?_
     refine dt 9 56 (.nilIface) (fun v hv _ => by kernel_rfl) trivial ?_
     refine dt 10 57 (.bool false) (fun v hv _ => by kernel_rfl) trivial ?_
     refine dt 11 12 (.nilIface) (fun v hv _ => by kernel_rfl) trivial ?_
     refine dt 12 13 (.bool false) (fun v hv _ => by kernel_rfl) trivial ?_
     refine Za6 (by kernel_rfl) ?_
     refine Zab ?_
     refine Zac ?_
     refine Zac ?_
     refine Zaa ?_
     refine rp 58 (.bool false) ?_
     refine rp 59 (.bool true) ?_
     refine Zad ?_
     refine Zab ?_
     refine Zai (fun _ => by kernel_rfl) ?_
     refine Zac ?_
     refine Zaa ?_
     refine rp 8 (.int .i64 2) ?_
     refine Zad ?_
     refine Zab ?_
     refine Zap ?_
     refine Zah ?_
     refine Zaq ?_
     refine Zaq ?_
     refine Zah ?_
     refine Zah ?_
     refine Zaq ?_
     refine Zah ?_
     refine Zae (.int .i64 2) (fun _ => by kernel_rfl) ?_
     rw [hres, hru]
     exact ⟨_, rfl, ⟨rfl, hP⟩, T2.of hB⟩
    refine ar_v 6 54 (.int .i64 ((ls : Nat) : Int)) rfl (fun _ => by kernel_rfl) (fun _ => Zag 3 _ ⟨gw, ow + j * 3 + 1, none⟩ _ _ rfl (by kernel_rfl) (hrw 1 _ rfl) Tryz.underlying3 rfl) trivial ?_ Zaz
    refine Zas [1] (by kernel_rfl) (by simp) ?_
    refine ar_v 1 49 (.agg (brc (updv vs i.toNat u) (.slice a n c))) rfl (fun _ => by kernel_rfl) (fun _ => Za2 116 _ _ _ _ _ _ rfl (by kernel_rfl) hr20 Tryz.underlying116 rfl (by kernel_rfl)) trivial ?_ Zaz
    refine Zas [7] (by kernel_rfl) (by simp) ?_
    refine Za5 7 55 63 #[.pointer (some ⟨g, 0, none⟩), .agg (brc (updv vs i.toNat u) (.slice a n c)), .int .i64 ((ls : Nat) : Int)] rfl (fun _ => by kernel_rfl) (fun _ => by kernel_rfl) (R := RNm w21.drew g gK gU t0 kn _ none) (by have := Zc4 hP hk9 hx (by omega) hD3.1 (Zd7 hD3.2 (by rw [← hD2.1]; exact hwt)); rw [hnm] at this; exact this) (fun _ _ _ => trivial) ?_ Zaz
    rintro _ w28 ⟨hP30, rfl, hT31⟩
    replace hB := hB.trans hT31
    replace hP := hP30
    replace hq := hq.nt hT31.n
    replace ht := ht.nt hT31.n
    replace hk := hk.nt hT31.n
    replace hx := hx.nt hT31.n
    replace hr20 := hr20.past hT31.t (by omega)
    replace hk9 := hk9.nt hT31.n
    refine dt 8 47 (.tuple #[.nilIface, .bool false]) (fun v hv _ => by kernel_rfl) trivial ?_
    refine dt 9 56 (.nilIface) (fun v hv _ => by kernel_rfl) trivial ?_
    refine dt 10 57 (.bool false) (fun v hv _ => by kernel_rfl) trivial ?_
    refine dt 11 12 (.nilIface) (fun v hv _ => by kernel_rfl) trivial ?_
    refine dt 12 13 (.bool false) (fun v hv _ => by kernel_rfl) trivial ?_
    refine Za6 (by kernel_rfl) ?_
    refine Zab ?_
    refine Zac ?_
    refine Zac ?_
    refine Zaa ?_
    refine rp 58 (.bool false) ?_
    refine rp 59 (.bool true) ?_
    refine Zad ?_
    refine Zab ?_
    refine Zai (fun _ => by kernel_rfl) ?_
    refine Zac ?_
    refine Zaa ?_
    refine rp 8 (.int .i64 2) ?_
    refine Zad ?_
    refine Zab ?_
    refine Zap ?_
    refine Zah ?_
    refine Zaq ?_
    refine Zaq ?_
    refine Zah ?_
    refine Zah ?_
    refine Zaq ?_
    refine Zah ?_
    refine Zae (.int .i64 2) (fun _ => by kernel_rfl) ?_
    rw [hres, hru]
    exact ⟨_, rfl, ⟨rfl, hP⟩, T2.of hB⟩
   | some t2 =>
    rw [hnm] at hres hru
    simp only at hres hru
    refine Zac ?_
    refine Zac ?_
    refine Zaa ?_
    refine rp 17 (.int .i64 ((j : Nat) : Int)) ?_
    refine rv 18 (.bool true) (fun _ => Zal (v := .bool (decide (((j : Nat) : Int) ≥ (0 : Int)))) (by kernel_rfl) (congrArg Value.bool (decide_eq_true (by omega)))) ?_
    refine Zad ?_
    refine Zab ?_
    refine Zai (fun _ => by kernel_rfl) ?_
    refine Zam ?_
    refine Zab ?_
    refine Zac ?_
    refine Zan ?_
    refine Zac ?_
    refine Zaa ?_
    refine rp 21 (.slice (some ⟨gw, ow, none⟩) ws.length cw) ?_
    refine rp 22 (.int .i64 ((j : Nat) : Int)) ?_
    refine rv 23 (.pointer (some ⟨gw, ow + j * 3, none⟩)) (fun _ => Za0 84 _ _ gw ow j ws.length cw 3 88 rfl (by kernel_rfl) (by kernel_rfl) (by omega) Tryz.underlying84 (by kernel_rfl)) ?_
    refine rp 24 (.pointer (some ⟨gw, ow + j * 3, none⟩)) ?_
    refine rv 25 (.iface 116 (.agg (brc vs (.slice a n c)))) (fun _ => Zag 47 _ ⟨gw, ow + j * 3, none⟩ _ _ rfl (by kernel_rfl) (hrw 0 _ rfl) Tryz.underlying47 rfl) ?_
    refine Zad ?_
    refine Zab ?_
    refine Zan ?_
    refine Zac ?_
    refine Zaa ?_
    refine rp 26 (.tuple #[.agg (#[.slice none 0 0, .nilIface]), .bool false]) ?_
    refine rp 27 (.bool false) ?_
    refine rp 28 (.agg (#[.slice none 0 0, .nilIface])) ?_
    refine Zad ?_
    refine Zab ?_
    refine Zaf (fun _ => by kernel_rfl) ?_
    refine Zac ?_
    refine Zaa ?_
    refine rp 33 (.tuple #[.agg (brc vs (.slice a n c)), .bool true]) ?_
    refine rp 34 (.bool true) ?_
    refine rp 35 (.agg (brc vs (.slice a n c))) ?_
    refine Zad ?_
    refine Zab ?_
    refine Zai (fun _ => by kernel_rfl) ?_
    refine Zac ?_
    refine Zaa ?_
    refine Zar 11 (brc (fun _ => .nilIface) (.slice none 0 0)) 116 (fun _ => by kernel_rfl) (fun _ => by kernel_rfl) ?_
    intro w32 g33 hn34
    have hr35 : Rw g33 w32 (brc (fun _ => .nilIface) (.slice none 0 0)) 116 := hn34.row
    refine Zav g33 (brc vs (.slice a n c)) (fun _ => by kernel_rfl) (fun _ => Zao 116 _ _ _ _ _ 116 rfl (by kernel_rfl) (by kernel_rfl) hr35 (by kernel_rfl) (by kernel_rfl) (Zbl hk)) ?_
    intro w36 hp37
    replace hn34 := hn34.put hp37
    clear hr35
    have hzg33 : w.heap.size ≤ g33 := by have := hB.size; have := hn34.hg; omega
    replace hB := hB.go hn34.below
    replace hP := hP.go hn34.below
    replace hq := hq.go hn34.below
    replace ht := ht.go hn34.below
    replace hrw := Zba hrw hn34.below
    replace hk := hk.go hn34.below
    replace hx := hx.go hn34.below
    replace hcq := Zdh hcq hn34.below
    have hr39 : Rw g33 w36 (brc vs (.slice a n c)) 116 := hn34.row
    refine Zad ?_
    refine Zab ?_
    refine Zac ?_
    refine Zaa ?_
    refine rp 36 (.slice (some ⟨gq, oq, none⟩) m2 d2) ?_
    refine rp 37 (.slice (some ⟨gw, ow, none⟩) ws.length cw) ?_
    refine rp 38 (.int .i64 ((j : Nat) : Int)) ?_
    refine rv 39 (.pointer (some ⟨gw, ow + j * 3, none⟩)) (fun _ => Za0 84 _ _ gw ow j ws.length cw 3 88 rfl (by kernel_rfl) (by kernel_rfl) (by omega) Tryz.underlying84 (by kernel_rfl)) ?_
    refine rp 40 (.pointer (some ⟨gw, ow + j * 3 + 1, none⟩)) ?_
    refine rv 41 (.int .i64 ((ls : Nat) : Int)) (fun _ => Zag 3 _ ⟨gw, ow + j * 3 + 1, none⟩ _ _ rfl (by kernel_rfl) (hrw 1 _ rfl) Tryz.underlying3 rfl) ?_
    refine rv 42 (.pointer (some ⟨gq, oq + ls * 1, none⟩)) (fun _ => Za0 29 _ _ gq oq ls m2 d2 1 5 rfl (by kernel_rfl) (by kernel_rfl) (by omega) Tryz.underlying29 (by kernel_rfl)) ?_
    refine rv 43 (.int .u8 i) (fun _ => Zag 5 _ ⟨gq, oq + ls * 1, none⟩ _ _ rfl (by kernel_rfl) (by rw [Nat.mul_one]; exact hcq) Tryz.underlying5 rfl) ?_
    refine rp 44 (u) ?_
    refine rp 45 (.pointer (some ⟨g33, 0, none⟩)) ?_
    refine rv 46 (.pointer (some ⟨g33, 0 + i.toNat * 1, none⟩)) (fun _ => Zb5 (kd := .u8) 114 _ _ g33 0 i.toNat 16 1 47 rfl (by kernel_rfl) (by show Value.int .u8 i = _; rw [Int.toNat_of_nonneg hi16.1]) hit (by omega) Tryz.underlying114 (by kernel_rfl)) ?_
    refine Zb0 g33 (0 + i.toNat * 1) (u) (fun _ => by kernel_rfl) (fun _ => Zbr 47 _ _ g33 _ _ 116 _ hr39 rfl (by kernel_rfl) (by kernel_rfl) (by show 0 + i.toNat * 1 < 17; omega) ht.cells ht.one (by kernel_rfl)) ?_
    intro w40 hs41
    have hnt42 := Nt.rows hr39 (Zdi hk) hs41.touch
    replace hB := hB.tou hs41.touch hzg33 hnt42
    replace hP := hP.keep hnt42 (hs41.touch.block _ hP.lt (by omega)) (hs41.touch.block _ hP.km.lt (by omega)) (hP.um.keep (hs41.touch.block _ hP.um.lt (by omega)))
    replace hq := hq.nt hnt42
    replace ht := ht.nt hnt42
    replace hk := hk.nt hnt42
    replace hx := hx.nt hnt42
    replace hr39 := hr39.set (cells' := (brc (updv vs i.toNat u) (.slice a n c))) hs41 (by rw [Nat.zero_add, Nat.mul_one]; exact Zg8 _ _ _ _ hit)
    have hk9 := hk.put (i := i.toNat) ht
    have hrw9 := (hW0.tu hB hmap).row j _ hs1
    obtain ⟨gw9, ow9, uw9, e9, hrw, _⟩ := hrw9
    cases e9
    refine Zad ?_
    refine Zab ?_
    refine Zac ?_
    refine Zbd (fun v => True) (by kernel_rfl) (trivial) ?_
    replace hB := hB.go (Below.refl _ _).drew
    replace hP := hP.go (Below.refl _ _).drew
    replace hq := hq.go (Below.refl _ _).drew
    replace ht := ht.go (Below.refl _ _).drew
    replace hk := hk.go (Below.refl _ _).drew
    replace hx := hx.go (Below.refl _ _).drew
    replace hr39 := hr39.go (Below.refl _ _).drew
    replace hk9 := hk9.go (Below.refl _ _).drew
    replace hrw := Zba hrw (Below.refl _ _).drew
    refine dt 0 48 (.pointer (some ⟨g, 0, none⟩)) (fun v hv _ => by kernel_rfl) trivial ?_
    refine dt 2 50 (.slice (some ⟨gw, ow, none⟩) ws.length cw) (fun v hv _ => by kernel_rfl) trivial ?_
    refine dt 3 51 (.int .i64 ((j : Nat) : Int)) (fun v hv _ => by kernel_rfl) trivial ?_
    refine dt 4 52 (.pointer (some ⟨gw, ow + j * 3, none⟩)) (fun v hv _ => Za0 84 _ _ gw ow j ws.length cw 3 88 rfl (by kernel_rfl) (by kernel_rfl) (by omega) Tryz.underlying84 (by kernel_rfl)) trivial ?_
    refine dt 5 53 (.pointer (some ⟨gw, ow + j * 3 + 1, none⟩)) (fun v hv _ => by kernel_rfl) trivial ?_
    refine Zas [1, 6] (by kernel_rfl) (by simp) ?_
    refine ar_v 1 49 (.agg (brc (updv vs i.toNat u) (.slice a n c))) rfl (fun _ => by kernel_rfl) (fun _ => Za2 116 _ _ _ _ _ _ rfl (by kernel_rfl) hr39 Tryz.underlying116 rfl (by kernel_rfl)) trivial ?_ ?_
    ·skip
     refine Zas [6] (by kernel_rfl) (by simp) ?_
     refine ar_v 6 54 (.int .i64 ((ls : Nat) : Int)) rfl (fun _ => by kernel_rfl) (fun _ => Zag 3 _ ⟨gw, ow + j * 3 + 1, none⟩ _ _ rfl (by kernel_rfl) (hrw 1 _ rfl) Tryz.underlying3 rfl) trivial ?_ Zaz
     refine Zas [7] (by kernel_rfl) (by simp) ?_
     refine Za5 7 55 63 #[.pointer (some ⟨g, 0, none⟩), .agg (brc (updv vs i.toNat u) (.slice a n c)), .int .i64 ((ls : Nat) : Int)] rfl (fun _ => by kernel_rfl) (fun _ => by kernel_rfl) (R := RNm w40.drew g gK gU t0 kn _ (some t2)) (by have := Zc4 hP hk9 hx (by omega) hD3.1 (Zd7 hD3.2 (by rw [← hD2.1]; exact hwt)); rw [hnm] at this; exact this) (fun _ _ _ => trivial) ?_ Zaz
     rintro _ w43 ⟨hP45, ⟨v47, rfl, ht48⟩, hT46⟩
     replace hB := hB.trans hT46
     replace hP := hP45
     replace hq := hq.nt hT46.n
     replace ht := ht.nt hT46.n
     replace hk := hk.nt hT46.n
     replace hx := hx.nt hT46.n
     replace hr39 := hr39.past hT46.t (by omega)
     replace hk9 := hk9.nt hT46.n
     refine dt 8 47 (.tuple #[v47, .bool true]) (fun v hv _ => by kernel_rfl) trivial ?_
     refine dt 9 56 (v47) (fun v hv _ => by kernel_rfl) trivial ?_
     refine dt 10 57 (.bool true) (fun v hv _ => by kernel_rfl) trivial ?_
     refine dt 11 12 (v47) (fun v hv _ => by kernel_rfl) trivial ?_
     refine dt 12 13 (.bool true) (fun v hv _ => by kernel_rfl) trivial ?_
     refine Za6 (by kernel_rfl) ?_
     refine Zab ?_
     refine Zac ?_
     refine Zac ?_
     refine Zaa ?_
     refine rp 58 (.bool true) ?_
     refine rp 59 (.bool false) ?_
     refine Zad ?_
     refine Zab ?_
     refine Zaf (fun _ => by kernel_rfl) ?_
     refine Zam ?_
     refine Zab ?_
     refine Zaa ?_
     refine rp 60 (v47) ?_
     refine rp 3 (v47) ?_
     refine Zad ?_
     refine Zau ?_
     refine Zau ?_
     refine Zab ?_
     refine Zaa ?_
     refine rp 19 (.int .i64 ((j : Nat) : Int)) ?_
     refine rv 20 (.int .i64 (((j : Nat) : Int) - 1)) (fun _ => Zal (v := .int .i64 (IntKind.i64.wrap (((j : Nat) : Int) - 1))) (by kernel_rfl) (congrArg (Value.int .i64) (Zbc (by omega) (by omega)))) ?_
     refine rp 9 (.int .i64 (((j : Nat) : Int) - 1)) ?_
     refine Zad ?_
     exact Za7 (E := fun x => [(9, .int .i64 (((x.j : Nat) : Int) - 1)), (3, x.v), (0, .pointer (some ⟨g, 0, none⟩)), (1, .slice (some ⟨gw, ow, none⟩) ws.length cw), (2, .slice (some ⟨gq, oq, none⟩) m2 d2)]) (R := RmI w g gK gU t0 kn (some ⟨gq, oq, none⟩) m2 d2 q ws RES RU) (μ := fun x => x.j) (x := ⟨j + 1, t, u⟩) ⟨j, t2, v47⟩ (by exact ⟨fun _ => by kernel_rfl, ⟨fun _ => by kernel_rfl, ⟨fun _ => by kernel_rfl, ⟨fun _ => by kernel_rfl, ⟨fun _ => by kernel_rfl, trivial⟩⟩⟩⟩⟩) ⟨hB, ⟨_, hP, hru⟩, hq, by simp only; omega, ht48, hres, ls, hD4, (Zpr hP.ok hD3.1 (Zd7 hD3.2 (by rw [← hD2.1]; exact hwt)) hnm)⟩ (by simp only; omega)
    refine ar_v 6 54 (.int .i64 ((ls : Nat) : Int)) rfl (fun _ => by kernel_rfl) (fun _ => Zag 3 _ ⟨gw, ow + j * 3 + 1, none⟩ _ _ rfl (by kernel_rfl) (hrw 1 _ rfl) Tryz.underlying3 rfl) trivial ?_ Zaz
    refine Zas [1] (by kernel_rfl) (by simp) ?_
    refine ar_v 1 49 (.agg (brc (updv vs i.toNat u) (.slice a n c))) rfl (fun _ => by kernel_rfl) (fun _ => Za2 116 _ _ _ _ _ _ rfl (by kernel_rfl) hr39 Tryz.underlying116 rfl (by kernel_rfl)) trivial ?_ Zaz
    refine Zas [7] (by kernel_rfl) (by simp) ?_
    refine Za5 7 55 63 #[.pointer (some ⟨g, 0, none⟩), .agg (brc (updv vs i.toNat u) (.slice a n c)), .int .i64 ((ls : Nat) : Int)] rfl (fun _ => by kernel_rfl) (fun _ => by kernel_rfl) (R := RNm w40.drew g gK gU t0 kn _ (some t2)) (by have := Zc4 hP hk9 hx (by omega) hD3.1 (Zd7 hD3.2 (by rw [← hD2.1]; exact hwt)); rw [hnm] at this; exact this) (fun _ _ _ => trivial) ?_ Zaz
    rintro _ w49 ⟨hP51, ⟨v53, rfl, ht54⟩, hT52⟩
    replace hB := hB.trans hT52
    replace hP := hP51
    replace hq := hq.nt hT52.n
    replace ht := ht.nt hT52.n
    replace hk := hk.nt hT52.n
    replace hx := hx.nt hT52.n
    replace hr39 := hr39.past hT52.t (by omega)
    replace hk9 := hk9.nt hT52.n
    refine dt 8 47 (.tuple #[v53, .bool true]) (fun v hv _ => by kernel_rfl) trivial ?_
    refine dt 9 56 (v53) (fun v hv _ => by kernel_rfl) trivial ?_
    refine dt 10 57 (.bool true) (fun v hv _ => by kernel_rfl) trivial ?_
    refine dt 11 12 (v53) (fun v hv _ => by kernel_rfl) trivial ?_
    refine dt 12 13 (.bool true) (fun v hv _ => by kernel_rfl) trivial ?_
    refine Za6 (by kernel_rfl) ?_
    refine Zab ?_
    refine Zac ?_
    refine Zac ?_
    refine Zaa ?_
    refine rp 58 (.bool true) ?_
    refine rp 59 (.bool false) ?_
    refine Zad ?_
    refine Zab ?_
    refine Zaf (fun _ => by kernel_rfl) ?_
    refine Zam ?_
    refine Zab ?_
    refine Zaa ?_
    refine rp 60 (v53) ?_
    refine rp 3 (v53) ?_
    refine Zad ?_
    refine Zau ?_
    refine Zau ?_
    refine Zab ?_
    refine Zaa ?_
    refine rp 19 (.int .i64 ((j : Nat) : Int)) ?_
    refine rv 20 (.int .i64 (((j : Nat) : Int) - 1)) (fun _ => Zal (v := .int .i64 (IntKind.i64.wrap (((j : Nat) : Int) - 1))) (by kernel_rfl) (congrArg (Value.int .i64) (Zbc (by omega) (by omega)))) ?_
    refine rp 9 (.int .i64 (((j : Nat) : Int) - 1)) ?_
    refine Zad ?_
    exact Za7 (E := fun x => [(9, .int .i64 (((x.j : Nat) : Int) - 1)), (3, x.v), (0, .pointer (some ⟨g, 0, none⟩)), (1, .slice (some ⟨gw, ow, none⟩) ws.length cw), (2, .slice (some ⟨gq, oq, none⟩) m2 d2)]) (R := RmI w g gK gU t0 kn (some ⟨gq, oq, none⟩) m2 d2 q ws RES RU) (μ := fun x => x.j) (x := ⟨j + 1, t, u⟩) ⟨j, t2, v53⟩ (by exact ⟨fun _ => by kernel_rfl, ⟨fun _ => by kernel_rfl, ⟨fun _ => by kernel_rfl, ⟨fun _ => by kernel_rfl, ⟨fun _ => by kernel_rfl, trivial⟩⟩⟩⟩⟩) ⟨hB, ⟨_, hP, hru⟩, hq, by simp only; omega, ht54, hres, ls, hD4, (Zpr hP.ok hD3.1 (Zd7 hD3.2 (by rw [← hD2.1]; exact hwt)) hnm)⟩ (by simp only; omega)
theorem Zhh {b : List Int} (h : Sk An w a n c b) (hn : n ≤ 32) : Calls Tryz.prog 37 #[.slice a n c] w fun e w' => ∃ v, e = .returned v ∧ (∃ a2 n2 c2, v = .slice a2 n2 c2 ∧ Sk An w' a2 n2 c2 (Ni.nib b) ∧ n2 ≤ 64) ∧ Bl w w' := by
 refine (Ni.of_any a n c b w h.ag (by omega)).mono ?_
 rintro e w' ⟨⟨a', rfl, hc⟩, hb⟩
 exact ⟨_, rfl, ⟨a', _, _, rfl, Ag.sk hc.ag, by omega⟩, hb⟩
theorem Zbp {k : List Int} (h : ∀ x ∈ k, 0 ≤ x ∧ x < 256) : nibs (Ni.nib k) := fun x hx => by have := Ni.nib_bd k h x hx; omega
theorem Zrl {path : List Int} : ∀ {f : Nat} {s : Sp} {way : List Sp}, walkP kn path f s = some way → way.length ≤ f := by
 intro f
 induction f with
 | zero => intro s way hw; cases hw
 | succ f ih =>
  intro s way hw
  unfold walkP at hw
  cases hq : lookP kn s with
  | none => rw [hq] at hw; cases hw
  | some u =>
   rw [hq] at hw
   simp only at hw
   cases hn : nextP path ⟨u, s.l, s.c⟩ with
   | none => rw [hn] at hw; cases hw; simp
   | some s2 =>
    rw [hn] at hw
    simp only at hw
    cases hr : walkP kn path f s2 with
    | none => rw [hr] at hw; cases hw
    | some r =>
     rw [hr] at hw
     cases hw
     have := ih hr
     simp only [List.length_cons]
     omega
structure EndOk (q : List Int) (way : List Sp) : Prop where
  pos : 0 < way.length
  le : way.length ≤ q.length + 1
  last : way[way.length - 1]? = some (endS way)
  wg : Wg (endS way).t (endS way).l
  l : (endS way).l ≤ q.length
  stop : nextP q (endS way) = none
  desc : Desc q (way.take (way.length - 1)).reverse (endS way).l
theorem Zea (hk : KnOk kn) (hq : nibs q) {t0 : Pt} (hw : Wg t0 0) (h : wayP kn t0 q = some way) : EndOk q way := by
 obtain ⟨h1, h2⟩ := Zn8 (s := ⟨t0, 0, false⟩) hk hq hw (Nat.zero_le _) h
 have h3 := Zrl h
 have hlast : way[way.length - 1]? = some (endS way) := by
  unfold endS
  rw [List.getD, List.getElem?_eq_getElem (by omega)]
  rfl
 have hm := h1 _ (List.mem_of_getElem? hlast)
 have hd := Zn9 (s := ⟨t0, 0, false⟩) (R := []) hk hq hw (Nat.zero_le _) h rfl
 rw [List.append_nil] at hd
 exact ⟨h2, h3, hlast, hm.1, hm.2, Zrm h, hd⟩
theorem EndOk.ext (h : EndOk q way) : ∀ p c, (endS way).t = ext p c → (q.drop (endS way).l).take p.length ≠ p := fun p c e he => by
  have := h.stop
  unfold nextP at this
  rw [e] at this
  simp only at this
  rw [if_pos he] at this
  cases this
theorem WayR.go {v : World} (h : WayR w a n c ws) (hb : Below w.heap.size w v) : WayR v a n c ws :=
  ⟨h.len, h.le, fun j s hs => by
    obtain ⟨g, off, u, h1, h2, h3⟩ := h.row j s hs
    exact ⟨g, off, u, h1, Zba h2 hb, h3.go hb⟩⟩
theorem WayR.cut {w : World} {a : Option Addr} {n c : Nat} {ws : List Sp} (h : WayR w a n c ws) (k : Nat) (hk : k ≤ n) (h0 : 0 < n) : ∃ a', (∀ (v : World) (ρ : Operand → Value) (o : Oper) (x y : Operand), o.op = .slice 84 x none (some y) none → ρ x = .slice a n c → ρ y = .int .i64 ((k : Nat) : Int) → (execOp ρ o).run Tryz.prog v = .ok (.value (.slice a' k c)) v) ∧ WayR w a' k c (ws.take k) := by
 obtain ⟨s, hs⟩ : ∃ s, ws[0]? = some s := ⟨ws[0]'(by have := h.len; omega), List.getElem?_eq_getElem _⟩
 obtain ⟨g, off, u, rfl, _⟩ := h.row 0 s hs
 have hle := h.le
 have hsz : ∀ v : World, (sizeOf 88).run Tryz.prog v = .ok 3 v := fun v => by
  obtain ⟨i, hi, _, hs, _⟩ := Zua
  simp [sizeOf, typeInfo, hi, hs]
 refine ⟨some ⟨g, off, none⟩, fun v ρ o x y ho hx hy => ?_, h.take k hk⟩
 have hkc : k ≤ c := by omega
 unfold execOp
 rw [ho]
 simp [hx, hy, Instr.sliceAt, run_underlying Tryz.underlying84, Instr.slice, Instr.sliceBounds, Instr.sliceBound, asIntOf, hkc, Result.andThen, hsz, Addr.add]
def getU (kn : Kn) (t : Pt) (key : List Int) (us : List (List Int)) : List (List Int) := if 32 < key.length then us else wkU kn (Ni.nib key) ((Ni.nib key).length + 1) ⟨t, 0, false⟩ us
def RGet (w : World) (g gK gU : Nat) (t0 : Pt) (kn : Kn) (us : List (List Int)) (key : List Int) : Value → World → Prop := fun u w' => PAt w' g gK gU t0 kn (getU kn t0 key us) ∧ (∃ a n c, u = .tuple #[.slice a n c, .bool (decide (0 < (getP kn t0 key).1.length)), .int .i64 (getP kn t0 key).2] ∧ Sk An w' a n c (getP kn t0 key).1 ∧ n ≤ 256) ∧ TU gU w w'
def RPut (w : World) (g gK gU : Nat) (kn : Kn) (us : List (List Int)) (r : Pt × Int) : Value → World → Prop := fun u w' => PAt w' g gK gU r.1 kn us ∧ u = .int .i64 r.2 ∧ T2 g gU w w'
def RDel (w : World) (g gK gU : Nat) (kn : Kn) (us : List (List Int)) (r : Pt × Bool × Int) : Value → World → Prop := fun u w' => PAt w' g gK gU r.1 kn us ∧ u = .tuple #[.bool r.2.1, .int .i64 r.2.2] ∧ T2 g gU w w'
set_option maxHeartbeats 1000000 in
theorem Zbi : Calls Tryz.prog 35 #[.slice a n c] w fun e w' => ∃ v', e = .returned v' ∧ RVl w (.bool (decide ((n : Int) ≤ 32))) v' w' := by
 have hB : Bl w w := Bl.refl w
 refine Zaj Tryz.func35 rfl 6 rfl ?_
 show CW _ _ _ _ _ _ _ [(0, .slice a n c)] _
 refine Zac ?_
 refine Zaa ?_
 refine rp 2 (.bool false) ?_
 refine Zad ?_
 refine Zab ?_
 refine Zac ?_
 refine Zaa ?_
 refine rp 3 (.slice a n c) ?_
 refine rp 4 (.int .i64 n) ?_
 refine rp 5 (.bool (decide ((n : Int) ≤ (32 : Int)))) ?_
 refine rp 2 (.bool (decide ((n : Int) ≤ (32 : Int)))) ?_
 refine Zad ?_
 refine Zab ?_
 refine Zap ?_
 refine Zae (.bool (decide ((n : Int) ≤ (32 : Int)))) (fun _ => by kernel_rfl) ?_
 exact ⟨_, rfl, rfl, hB⟩
set_option maxHeartbeats 1000000 in
theorem Zew : Calls Tryz.prog 36 #[.slice a n c] w fun e w' => ∃ v', e = .returned v' ∧ RVl w (.bool (decide (0 < n ∧ n ≤ 256))) v' w' := by
 have hB : Bl w w := Bl.refl w
 refine Zaj Tryz.func36 rfl 11 rfl ?_
 show CW _ _ _ _ _ _ _ [(0, .slice a n c)] _
 refine Zac ?_
 refine Zaa ?_
 refine rp 2 (.bool false) ?_
 refine Zad ?_
 refine Zab ?_
 refine Zac ?_
 refine Zaa ?_
 refine rp 3 (.slice a n c) ?_
 refine rp 4 (.int .i64 n) ?_
 refine rp 5 (.bool (decide ((n : Int) > (0 : Int)))) ?_
 refine rp 6 (.bool (decide ((n : Int) > (0 : Int)))) ?_
 cases hq1 : (decide ((n : Int) > (0 : Int))) with
 | true =>
  refine rp 7 (.slice a n c) ?_
  refine rp 8 (.int .i64 n) ?_
  refine rp 9 (.bool (decide ((n : Int) ≤ (256 : Int)))) ?_
  refine rp 10 (.bool (decide ((n : Int) ≤ (256 : Int)))) ?_
  refine rp 2 (.bool (decide ((n : Int) ≤ (256 : Int)))) ?_
  refine Zad ?_
  refine Zab ?_
  refine Zap ?_
  refine Zae (.bool (decide ((n : Int) ≤ (256 : Int)))) (fun _ => by kernel_rfl) ?_
  refine ⟨_, rfl, congrArg Value.bool ?_, hB⟩
  rw [decide_eq_decide]
  have := of_decide_eq_true hq1
  omega
 | false =>
  refine Za8 7 (fun _ => by kernel_rfl) ?_
  refine Za8 8 (fun _ => by kernel_rfl) ?_
  refine Za8 9 (fun _ => by kernel_rfl) ?_
  refine rp 10 (.bool false) ?_
  refine rp 2 (.bool false) ?_
  refine Zad ?_
  refine Zab ?_
  refine Zap ?_
  refine Zae (.bool false) (fun _ => by kernel_rfl) ?_
  refine ⟨_, rfl, congrArg Value.bool ?_, hB⟩
  rw [eq_comm, decide_eq_false_iff_not]
  have := of_decide_eq_false hq1
  omega
set_option maxHeartbeats 1000000 in
theorem Zs9 {t0 : Pt} (hP : PAt w g gK gU t0 kn us) {key : List Int} (hkey : Sk An w a n c key) (hl : 32 < n) : Calls Tryz.prog 19 #[.pointer (some ⟨g, 0, none⟩), .slice a n c] w fun e w' => ∃ v', e = .returned v' ∧ RGet w g gK gU t0 kn us key v' w' := by
 have hkl := hkey.len
 have hgP := hP.lt
 have hgK := hP.km.lt
 have hgU := hP.um.lt
 have hnb := Zbp hkey.ag.b
 have hU : getU kn t0 key us = us := by unfold getU; rw [if_pos (by omega)]
 have hG : getP kn t0 key = ([], 70) := by unfold getP; rw [if_pos (by omega)]
 unfold RGet
 rw [hU, hG]
 have hB : Bl w w := Bl.refl w
 refine Zaj Tryz.func19 rfl 37 rfl ?_
 show CW _ _ _ _ _ _ _ [(0, .pointer (some ⟨g, 0, none⟩)), (1, .slice a n c)] _
 refine Zac ?_
 refine Zaa ?_
 refine rp 4 (.slice none 0 0) ?_
 refine rp 5 (.bool false) ?_
 refine rp 6 (.int .i64 0) ?_
 refine Zad ?_
 refine Zab ?_
 refine Zac ?_
 refine Zac ?_
 refine Zaa ?_
 refine rp 11 (.slice a n c) ?_
 refine Zak 12 35 #[.slice a n c] (fun _ => by kernel_rfl) (fun _ => by kernel_rfl) (R := RVl w (.bool false)) (by have := Zbi (w := w) (a := a) (n := n) (c := c); rw [decide_eq_false (show ¬ (n : Int) ≤ 32 by omega)] at this; exact this) ?_
 rintro _ w1 ⟨rfl, hb2⟩
 replace hB := hB.go hb2
 replace hP := hP.go hb2
 replace hkey := hkey.go hb2
 refine rp 13 (.bool true) ?_
 refine Zad ?_
 refine Zab ?_
 refine Zai (fun _ => by kernel_rfl) ?_
 refine Zac ?_
 refine Zaa ?_
 refine rp 4 (.slice none 0 0) ?_
 refine rp 5 (.bool false) ?_
 refine rp 6 (.int .i64 70) ?_
 refine Zad ?_
 refine Zab ?_
 refine Zap ?_
 refine Zah ?_
 refine Zae (.tuple #[.slice none 0 0, .bool false, .int .i64 70]) (fun _ => by kernel_rfl) ?_
 exact ⟨_, rfl, hP, ⟨none, 0, 0, rfl, Sk.nil _ _, by omega⟩, TU.of hB⟩
set_option maxHeartbeats 1000000 in
theorem Zs8 {t0 : Pt} (hP : PAt w g gK gU t0 kn us) {key : List Int} (hkey : Sk An w a n c key) (hl : n ≤ 32) (hway : wayP kn t0 (Ni.nib key) = none) : Calls Tryz.prog 19 #[.pointer (some ⟨g, 0, none⟩), .slice a n c] w fun e w' => ∃ v', e = .returned v' ∧ RGet w g gK gU t0 kn us key v' w' := by
 have hkl := hkey.len
 have hgP := hP.lt
 have hgK := hP.km.lt
 have hgU := hP.um.lt
 have hnb := Zbp hkey.ag.b
 have hU : getU kn t0 key us = wkU kn (Ni.nib key) ((Ni.nib key).length + 1) ⟨t0, 0, false⟩ us := by unfold getU; rw [if_neg (by omega)]
 have hG : getP kn t0 key = ([], 2) := by unfold getP; rw [if_neg (by omega)]; rw [hway]
 unfold RGet
 rw [hU, hG]
 have hB : Bl w w := Bl.refl w
 refine Zaj Tryz.func19 rfl 37 rfl ?_
 show CW _ _ _ _ _ _ _ [(0, .pointer (some ⟨g, 0, none⟩)), (1, .slice a n c)] _
 refine Zac ?_
 refine Zaa ?_
 refine rp 4 (.slice none 0 0) ?_
 refine rp 5 (.bool false) ?_
 refine rp 6 (.int .i64 0) ?_
 refine Zad ?_
 refine Zab ?_
 refine Zac ?_
 refine Zac ?_
 refine Zaa ?_
 refine rp 11 (.slice a n c) ?_
 refine Zak 12 35 #[.slice a n c] (fun _ => by kernel_rfl) (fun _ => by kernel_rfl) (R := RVl w (.bool true)) (by have := Zbi (w := w) (a := a) (n := n) (c := c); rw [decide_eq_true (show (n : Int) ≤ 32 by omega)] at this; exact this) ?_
 rintro _ w1 ⟨rfl, hb2⟩
 replace hB := hB.go hb2
 replace hP := hP.go hb2
 replace hkey := hkey.go hb2
 refine rp 13 (.bool false) ?_
 refine Zad ?_
 refine Zab ?_
 refine Zaf (fun _ => by kernel_rfl) ?_
 refine Zam ?_
 refine Zab ?_
 refine Zac ?_
 refine Zaa ?_
 refine rp 14 (.slice a n c) ?_
 refine Zak 15 37 #[.slice a n c] (fun _ => by kernel_rfl) (fun _ => by kernel_rfl) (R := fun v w' => (∃ a2 n2 c2, v = .slice a2 n2 c2 ∧ Sk An w' a2 n2 c2 (Ni.nib key) ∧ n2 ≤ 64) ∧ Bl w1 w') (Zhh hkey (by omega)) ?_
 rintro _ w6 ⟨⟨a3, n4, c5, rfl, ha7, hn8⟩, hb9⟩
 replace hB := hB.go hb9
 replace hP := hP.go hb9
 replace hkey := hkey.go hb9
 have hql := ha7.len
 refine rp 7 (.slice a3 n4 c5) ?_
 refine Zad ?_
 refine Zab ?_
 refine Zac ?_
 refine Zaa ?_
 refine rp 17 (.pointer (some ⟨g, 0, none⟩)) ?_
 refine rp 18 (.slice a3 n4 c5) ?_
 refine Zak 19 38 #[.pointer (some ⟨g, 0, none⟩), .slice a3 n4 c5] (fun _ => by kernel_rfl) (fun _ => by kernel_rfl) (R := RWk w6 g gK gU t0 kn (wkU kn (Ni.nib key) ((Ni.nib key).length + 1) ⟨t0, 0, false⟩ us) none) (by have := Zca hP ha7 hn8 hnb; rw [hway] at this; exact this) ?_
 rintro _ w10 ⟨hP11, rfl, hT12⟩
 replace hB : TU gU w w10 := (TU.of hB).trans hT12
 replace hP := hP11
 replace hkey := hkey.nt hT12.n
 replace ha7 := ha7.nt hT12.n
 refine rp 16 (.tuple #[.slice none 0 0, .bool false]) ?_
 refine rp 20 (.slice none 0 0) ?_
 refine rp 21 (.bool false) ?_
 refine rp 8 (.slice none 0 0) ?_
 refine rp 9 (.bool false) ?_
 refine Zad ?_
 refine Zab ?_
 refine Zac ?_
 refine Zac ?_
 refine Zaa ?_
 refine rp 22 (.bool false) ?_
 refine rp 23 (.bool true) ?_
 refine Zad ?_
 refine Zab ?_
 refine Zai (fun _ => by kernel_rfl) ?_
 refine Zac ?_
 refine Zaa ?_
 refine rp 4 (.slice none 0 0) ?_
 refine rp 5 (.bool false) ?_
 refine rp 6 (.int .i64 2) ?_
 refine Zad ?_
 refine Zab ?_
 refine Zap ?_
 refine Zah ?_
 refine Zae (.tuple #[.slice none 0 0, .bool false, .int .i64 2]) (fun _ => by kernel_rfl) ?_
 exact ⟨_, rfl, hP, ⟨none, 0, 0, rfl, Sk.nil _ _, by omega⟩, hB⟩
set_option maxHeartbeats 1000000 in
theorem Zs7 {t0 : Pt} (hP : PAt w g gK gU t0 kn us) {key : List Int} (hkey : Sk An w a n c key) (hl : n ≤ 32) (hway : wayP kn t0 (Ni.nib key) = some way) : Calls Tryz.prog 19 #[.pointer (some ⟨g, 0, none⟩), .slice a n c] w fun e w' => ∃ v', e = .returned v' ∧ RGet w g gK gU t0 kn us key v' w' := by
 have hkl := hkey.len
 have hgP := hP.lt
 have hgK := hP.km.lt
 have hgU := hP.um.lt
 have hnb := Zbp hkey.ag.b
 have hE := Zea hP.ok hnb hP.wg hway
 have hEp := hE.pos
 have hEl := hE.le
 have hU : getU kn t0 key us = wkU kn (Ni.nib key) ((Ni.nib key).length + 1) ⟨t0, 0, false⟩ us := by unfold getU; rw [if_neg (by omega)]
 have hG : getP kn t0 key = (valS (Ni.nib key) (endS way), 0) := by unfold getP; rw [if_neg (by omega)]; rw [hway]
 unfold RGet
 rw [hU, hG]
 have hB : Bl w w := Bl.refl w
 refine Zaj Tryz.func19 rfl 37 rfl ?_
 show CW _ _ _ _ _ _ _ [(0, .pointer (some ⟨g, 0, none⟩)), (1, .slice a n c)] _
 refine Zac ?_
 refine Zaa ?_
 refine rp 4 (.slice none 0 0) ?_
 refine rp 5 (.bool false) ?_
 refine rp 6 (.int .i64 0) ?_
 refine Zad ?_
 refine Zab ?_
 refine Zac ?_
 refine Zac ?_
 refine Zaa ?_
 refine rp 11 (.slice a n c) ?_
 refine Zak 12 35 #[.slice a n c] (fun _ => by kernel_rfl) (fun _ => by kernel_rfl) (R := RVl w (.bool true)) (by have := Zbi (w := w) (a := a) (n := n) (c := c); rw [decide_eq_true (show (n : Int) ≤ 32 by omega)] at this; exact this) ?_
 rintro _ w1 ⟨rfl, hb2⟩
 replace hB := hB.go hb2
 replace hP := hP.go hb2
 replace hkey := hkey.go hb2
 refine rp 13 (.bool false) ?_
 refine Zad ?_
 refine Zab ?_
 refine Zaf (fun _ => by kernel_rfl) ?_
 refine Zam ?_
 refine Zab ?_
 refine Zac ?_
 refine Zaa ?_
 refine rp 14 (.slice a n c) ?_
 refine Zak 15 37 #[.slice a n c] (fun _ => by kernel_rfl) (fun _ => by kernel_rfl) (R := fun v w' => (∃ a2 n2 c2, v = .slice a2 n2 c2 ∧ Sk An w' a2 n2 c2 (Ni.nib key) ∧ n2 ≤ 64) ∧ Bl w1 w') (Zhh hkey (by omega)) ?_
 rintro _ w6 ⟨⟨a3, n4, c5, rfl, ha7, hn8⟩, hb9⟩
 replace hB := hB.go hb9
 replace hP := hP.go hb9
 replace hkey := hkey.go hb9
 have hql := ha7.len
 refine rp 7 (.slice a3 n4 c5) ?_
 refine Zad ?_
 refine Zab ?_
 refine Zac ?_
 refine Zaa ?_
 refine rp 17 (.pointer (some ⟨g, 0, none⟩)) ?_
 refine rp 18 (.slice a3 n4 c5) ?_
 refine Zak 19 38 #[.pointer (some ⟨g, 0, none⟩), .slice a3 n4 c5] (fun _ => by kernel_rfl) (fun _ => by kernel_rfl) (R := RWk w6 g gK gU t0 kn (wkU kn (Ni.nib key) ((Ni.nib key).length + 1) ⟨t0, 0, false⟩ us) (some way)) (by have := Zca hP ha7 hn8 hnb; rw [hway] at this; exact this) ?_
 rintro _ w10 ⟨hP11, ⟨aw13, cw14, rfl, hW15⟩, hT12⟩
 replace hB : TU gU w w10 := (TU.of hB).trans hT12
 replace hP := hP11
 replace hkey := hkey.nt hT12.n
 replace ha7 := ha7.nt hT12.n
 refine rp 16 (.tuple #[.slice aw13 way.length cw14, .bool true]) ?_
 refine rp 20 (.slice aw13 way.length cw14) ?_
 refine rp 21 (.bool true) ?_
 refine rp 8 (.slice aw13 way.length cw14) ?_
 refine rp 9 (.bool true) ?_
 refine Zad ?_
 refine Zab ?_
 refine Zac ?_
 refine Zac ?_
 refine Zaa ?_
 refine rp 22 (.bool true) ?_
 refine rp 23 (.bool false) ?_
 refine Zad ?_
 refine Zab ?_
 refine Zaf (fun _ => by kernel_rfl) ?_
 refine Zam ?_
 refine Zab ?_
 refine Zac ?_
 obtain ⟨gw, ow, uw, rfl, hrw, huw⟩ := hW15.row (way.length - 1) (endS way) hE.last
 refine Zaa ?_
 refine rp 24 (.slice (some ⟨gw, ow, none⟩) way.length cw14) ?_
 refine rp 25 (.slice (some ⟨gw, ow, none⟩) way.length cw14) ?_
 refine rp 26 (.int .i64 ((way.length : Nat) : Int)) ?_
 refine rv 27 (.int .i64 ((way.length - 1 : Nat) : Int)) (fun _ => Zal (v := .int .i64 (IntKind.i64.wrap (((way.length : Nat) : Int) - 1))) (by kernel_rfl) (congrArg (Value.int .i64) ((Zbc (by omega) (by omega)).trans (by omega)))) ?_
 refine rv 28 (.pointer (some ⟨gw, ow + (way.length - 1) * 3, none⟩)) (fun _ => Za0 84 _ _ gw ow (way.length - 1) way.length cw14 3 88 rfl (by kernel_rfl) (by kernel_rfl) (by omega) Tryz.underlying84 (by kernel_rfl)) ?_
 refine rv 29 (.agg #[uw, .int .i64 (((endS way).l : Nat) : Int), .bool (endS way).c]) (fun _ => Zb2 88 _ gw (ow + (way.length - 1) * 3) [uw, .int .i64 (((endS way).l : Nat) : Int), .bool (endS way).c] _ rfl (by kernel_rfl) hrw Tryz.underlying88 rfl (by kernel_rfl)) ?_
 refine rp 30 (.slice a3 n4 c5) ?_
 refine Zak 31 42 #[.agg #[uw, .int .i64 (((endS way).l : Nat) : Int), .bool (endS way).c], .slice a3 n4 c5] (fun _ => by kernel_rfl) (fun _ => by kernel_rfl) (R := RSv w10 (valS (Ni.nib key) (endS way))) (Zgb huw ha7 (by have := hE.l; omega)) ?_
 rintro _ w19 ⟨⟨a16, n17, c18, rfl, ha20, hn21⟩, hb22⟩
 replace hB := hB.go hb22
 replace hP := hP.go hb22
 replace hkey := hkey.go hb22
 replace ha7 := ha7.go hb22
 replace hW15 := hW15.go hb22
 replace hrw := Zba hrw hb22
 replace huw := huw.go hb22
 have hvl := ha20.len
 refine rp 10 (.slice a16 n17 c18) ?_
 refine Zad ?_
 refine Zab ?_
 refine Zac ?_
 refine Zaa ?_
 refine rp 32 (.slice a16 n17 c18) ?_
 refine Zak 33 41 #[.slice a16 n17 c18] (fun _ => by kernel_rfl) (fun _ => by kernel_rfl) (R := fun u w' => ∃ a2 n2 c2, u = .slice a2 n2 c2 ∧ Sk (fun b => (w19).heap.size ≤ b) w' a2 n2 c2 (valS (Ni.nib key) (endS way)) ∧ Bl w19 w') (Zg6 ha20 (by omega)) ?_
 rintro _ w26 ⟨a23, n24, c25, rfl, ha27, hb28⟩
 replace ha27 := ha27.any
 replace hB := hB.go hb28
 replace hP := hP.go hb28
 replace hkey := hkey.go hb28
 replace ha7 := ha7.go hb28
 replace hW15 := hW15.go hb28
 replace hrw := Zba hrw hb28
 replace huw := huw.go hb28
 replace ha20 := ha20.go hb28
 refine rp 34 (.slice a16 n17 c18) ?_
 refine rp 35 (.int .i64 n17) ?_
 refine rp 36 (.bool (decide ((n17 : Int) > (0 : Int)))) ?_
 refine rp 4 (.slice a23 n24 c25) ?_
 refine rp 5 (.bool (decide ((n17 : Int) > (0 : Int)))) ?_
 refine rp 6 (.int .i64 0) ?_
 refine Zad ?_
 refine Zab ?_
 refine Zap ?_
 refine Zae (.tuple #[.slice a23 n24 c25, .bool (decide ((n17 : Int) > (0 : Int))), .int .i64 0]) (fun _ => by kernel_rfl) ?_
 have hbd : decide (0 < (valS (Ni.nib key) (endS way)).length) = decide ((n17 : Int) > (0 : Int)) := decide_eq_decide.2 (by omega)
 simp only [hbd]
 exact ⟨_, rfl, hP, ⟨_, _, _, rfl, ha27, by have := ha27.len; omega⟩, hB⟩
theorem Zqk {t0 : Pt} (hP : PAt w g gK gU t0 kn us) {key : List Int} (hkey : Sk An w a n c key) : Calls Tryz.prog 19 #[.pointer (some ⟨g, 0, none⟩), .slice a n c] w fun e w' => ∃ v', e = .returned v' ∧ RGet w g gK gU t0 kn us key v' w' := by
 by_cases hl : 32 < n
 ·exact Zs9 hP hkey hl
 ·cases hw : wayP kn t0 (Ni.nib key) with
  | none => exact Zs8 hP hkey (by omega) hw
  | some way => exact Zs7 hP hkey (by omega) hw
end Go.Proofs.YtchgejomcgoaeaaGreat

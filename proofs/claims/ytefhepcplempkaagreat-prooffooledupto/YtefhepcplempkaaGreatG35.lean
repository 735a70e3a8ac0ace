/- Copies of byte strings; two unlike ones of one digest. -/
import Derived.Test.YtefhepcplempkaaGreatG34
import Derived.Test.YtefhepcplempkaaGreatG00
import Derived.Test.YtefhepcplempkaaGreatG23
import Derived.Test.YtefhepcplempkaaGreatG29
import Derived.Test.YtefhepcplempkaaGreatG24
import Derived.Test.YtefhepcplempkaaGreatG21
import Derived.Lib.SliceRun
set_option linter.unusedVariables false
set_option maxRecDepth 100000
namespace Go.Proofs.YtefhepcplempkaaGreat
open Go.RowKit
open Tr
open Di (dref)
theorem Zn9 {M : List (List Int)} {j : Nat} (h : j < M.length) : M.take (j + 1) = M.take j ++ [M.getD j []] := by
 rw [List.take_add_one, List.getD, List.getElem?_eq_getElem h]; rfl
def Cla (M : List (List Int)) (i k : Nat) : Prop := M.getD i [] ≠ M.getD k [] /\ dref (M.getD i []) = dref (M.getD k [])
set_option maxHeartbeats 4000000 in
theorem Zo5 {K : Nat -> Prop} {w : World} {a : Option Addr} {n c : Nat} {M : List (List Int)} (hL : Bt K w a n M) (hM : ∀ b ∈ M, b.length <= 140737488351232) (hn : n <= 4000000000000) :
  Calls Tryz.prog 16 #[.slice a n c] w fun e w' => ∃ u, e = .returned u /\ (fun u w' => OwnS w' w.heap.size u M /\ Bl w w') u w' := by
 have hB := Bl.refl w
 have hl0 := hL.len
 have hL0 := hL
 refine Zal Tryz.func16 rfl 21 rfl ?_
 show CW _ _ _ _ _ _ _ [(0, .slice a n c)] _
 refine Zac <| Zaa <| rp 2 (.slice none 0 0) <| Zad <| Zab <| Zac <| Zaa <| rp 3 (.slice none 0 0) <| Zad <| Zab <| Zac <| Zac ?_
 refine Zaa <| rp 5 (.slice a n c) <| rp 6 (.int .i64 n) <| rp 7 (.int .i64 0) <| Zad <| Zab <| Zas <| Zb1 (X := Nat × Value) (fun q => [(7, .int .i64 ((q.1 : Nat) : Int)), (0, .slice a n c), (6, .int .i64 n), (3, q.2)]) (fun q v => Bl w v /\ OwnS v w.heap.size q.2 (M.take q.1) /\ q.1 <= n) (fun q => n - q.1) (0, .slice none 0 0) (by exact ⟨fun _ => by kernel_rfl, ⟨fun _ => by kernel_rfl, ⟨fun _ => by kernel_rfl, ⟨fun _ => by kernel_rfl, trivial⟩⟩⟩⟩) ⟨hB, by rw [List.take_zero]; exact OwnS.none _ _, Nat.zero_le _⟩ ?_
 clear hB
 rintro ⟨j, vO⟩ v ⟨hB, hO, hj⟩
 simp only at hB hO hj
 show CW _ _ _ _ _ _ _ [(7, .int .i64 ((j : Nat) : Int)), (0, .slice a n c), (6, .int .i64 n), (3, vO)] _
 by_cases hlt : j < n
 ·skip
  obtain ⟨g1, o1, a1, n1, c1, e1, hc1, hs1⟩ := hL0.row j hlt
  subst e1
  have ls1 := hs1.len
  have hb1 : (M.getD j []).length <= 140737488351232 := hM _ (by rw [List.getD, List.getElem?_eq_getElem (by omega)]; exact List.getElem_mem _)
  have htl : (M.take j).length = j := by rw [List.length_take]; omega
  refine Zac <| Zaa <| rv 8 (.bool true) (fun _ => Zaj (v := .bool (decide (((j : Nat) : Int) < (n : Int)))) (by kernel_rfl) (congrArg Value.bool (decide_eq_true (by omega)))) <| Zad <| Zab <| Zac <| Zak (fun _ => by kernel_rfl) <| Zan <| Zab <| Zac <| Zas <| Zac ?_
  refine Zaa <| rp 9 (.int .i64 ((j : Nat) : Int)) <| rp 4 (.int .i64 ((j : Nat) : Int)) <| Zad <| Zab ?_
  have hB0 := hB
  have hO0 := hO
  refine Zaa <| rp 10 (vO) <| Zbe 11 #[] 5 0 (fun _ => by kernel_rfl) (fun _ => by kernel_rfl) ?_
  intro w5 g5 hn5
  have hq := Zdu hn5 (Nat.le_refl v.heap.size)
  have hOv := fun k hk => (hO.own k hk).2
  replace hB := hB.go hn5.below
  replace hO := hO.far hn5.below
  have hz5 := hn5.below.size
  refine rp 12 (.slice (some ⟨g1, o1, none⟩) n c) <| rp 13 (.int .i64 ((j : Nat) : Int)) <| rv 14 (.pointer (some ⟨g1, o1 + j * 1, none⟩)) (fun _ => Za0 28 _ _ g1 o1 j n c 1 23 rfl (by kernel_rfl) (by kernel_rfl) hlt Tryz.underlying28 (by kernel_rfl)) <| rv 15 (.slice a1 n1 c1) (fun _ => Zai 23 _ _ _ _ rfl (by kernel_rfl) ((Below.cell hB (block_lt_of_cell hc1)).trans hc1) Tryz.underlying23 rfl) ?_
  obtain ⟨V6, w6, hr6, ho6, hb6⟩ := Zd3 hq (hs1.go hB).ag (by simp; omega) hz5
  refine rw_v 16 V6 (fun _ => by kernel_rfl) (fun _ => Zfs hr6 _ _ rfl (by kernel_rfl) (by kernel_rfl)) ?_
  have hb6w : Bl v w6 := Below.trans hn5.below hb6
  replace hB : Bl w w6 := hB0.go hb6w
  replace hO := hO0.far hb6w
  rw [List.nil_append] at ho6
  obtain ⟨a6, c6, eV, hs6⟩ := ho6.sk (K := fun b => vO.ownBlock ≠ some b) (hs1.ag.b) (fun b hb e => by have := hOv b e; omega)
  subst eV
  refine Zbe 17 #[.slice a6 (M.getD j []).length c6] 23 1 (fun _ => by kernel_rfl) (fun _ => by kernel_rfl) ?_
  intro w7 g7 hn7
  have hB1 := Bt.one hn7 hs6
  replace hB := hB.go hn7.below
  replace hO := hO.far hn7.below
  obtain ⟨vP, w8, hr8, hO3, hb8⟩ := appT (c := 1) hO hB1 (fun b hb => hb) (by rw [htl]; omega) hB.size
  refine rw_v 18 vP (fun _ => by kernel_rfl) (fun _ => Zde hr8 _ _ rfl (by kernel_rfl) (by kernel_rfl)) ?_
  replace hB : Bl w w8 := Below.trans hB hb8
  refine rp 3 (vP) <| Zad <| Za2 <| Zab <| Zaa <| rv 19 (.int .i64 (((j : Nat) : Int) + 1)) (fun _ => Zaj (v := .int .i64 (IntKind.i64.wrap (((j : Nat) : Int) + 1))) (by kernel_rfl) (congrArg (Value.int .i64) (Zbl (by omega) (by omega)))) <| rp 7 (.int .i64 (((j : Nat) : Int) + 1)) <| Zad ?_
  exact Zbc (E := fun q => [(7, .int .i64 ((q.1 : Nat) : Int)), (0, .slice (some ⟨g1, o1, none⟩) n c), (6, .int .i64 n), (3, q.2)]) (R := fun q v => Bl w v /\ OwnS v w.heap.size q.2 (M.take q.1) /\ q.1 <= n) (μ := fun q => n - q.1) (x := (j, vO)) (j + 1, vP) (by exact ⟨fun _ => by kernel_rfl, ⟨fun _ => by kernel_rfl, ⟨fun _ => by kernel_rfl, ⟨fun _ => by kernel_rfl, trivial⟩⟩⟩⟩) ⟨hB, by show OwnS _ _ vP (M.take (j + 1)); rw [Zn9 (by omega)]; exact hO3, by simp only; omega⟩ (by show n - (j + 1) < n - j; omega)
 obtain rfl : j = n := by omega
 show CW _ _ _ _ _ _ _ [(7, .int .i64 ((j : Nat) : Int)), (0, .slice a j c), (6, .int .i64 ((j : Nat) : Int)), (3, vO)] _
 refine Zac <| Zaa <| rv 8 (.bool false) (fun _ => Zaj (v := .bool (decide (((j : Nat) : Int) < ((j : Nat) : Int)))) (by kernel_rfl) (congrArg Value.bool (decide_eq_false (by omega)))) <| Zad <| Zab <| Zac <| Zaf (fun _ => by kernel_rfl) <| Zbs <| Zaq <| Zaq <| Za4 <| Zab ?_
 refine Zac <| Zaa <| rp 20 (vO) <| rp 2 (vO) <| Zad <| Zab <| Zam ?_
 exact Zae vO (fun _ => by kernel_rfl) ⟨_, rfl, ⟨by rw [<- List.take_length (l := M), hl0]; exact hO, hB⟩⟩
set_option maxHeartbeats 4000000 in
theorem Zr6 {K : Nat -> Prop} {w : World} {a : Option Addr} {n c : Nat} {M : List (List Int)} (hL : Bt K w a n M) (hM : ∀ b ∈ M, b.length <= 140737488351232) (hn : n <= 5000000000000) (hC : ∃ i k, i < n /\ k < i /\ Cla M i k) :
  Calls Tryz.prog 21 #[.slice a n c] w fun e w' => ∃ u, e = .returned u /\ (fun u w' => u = .bool true /\ Bl w w') u w' := by
 have hB := Bl.refl w
 have hl0 := hL.len
 have hL0 := hL
 obtain ⟨i0, k0, hi0, hk0, hcl⟩ := hC
 refine Zal Tryz.func21 rfl 40 rfl ?_
 show CW _ _ _ _ _ _ _ [(0, .slice a n c)] _
 refine Zac <| Zaa <| rp 2 (.bool false) <| Zad <| Zab <| Zac <| Zac <| Zaa <| rp 5 (.slice a n c) <| rp 6 (.int .i64 n) <| rp 7 (.int .i64 0) <| Zad ?_
 refine Zab <| Zas <| Zb1 (X := Nat) (fun q => [(7, .int .i64 ((q : Nat) : Int)), (0, .slice a n c), (6, .int .i64 n)]) (fun q v => Bl w v /\ q <= i0) (fun q => n - q) 0 (by exact ⟨fun _ => by kernel_rfl, ⟨fun _ => by kernel_rfl, ⟨fun _ => by kernel_rfl, trivial⟩⟩⟩) ⟨hB, Nat.zero_le _⟩ ?_
 clear hB
 rintro i v ⟨hB, hi⟩
 show CW _ _ _ _ _ _ _ [(7, .int .i64 ((i : Nat) : Int)), (0, .slice a n c), (6, .int .i64 n)] _
 have hin : i < n := by omega
 obtain ⟨g1, o1, a1, n1, c1, e1, hc1, hs1⟩ := hL0.row i hin
 subst e1
 have ls1 := hs1.len
 have hm1 : (M.getD i []).length <= 140737488351232 := hM _ (by rw [List.getD, List.getElem?_eq_getElem (by omega)]; exact List.getElem_mem _)
 refine Zac <| Zaa <| rv 8 (.bool true) (fun _ => Zaj (v := .bool (decide (((i : Nat) : Int) < (n : Int)))) (by kernel_rfl) (congrArg Value.bool (decide_eq_true (by omega)))) <| Zad <| Zab <| Zac <| Zak (fun _ => by kernel_rfl) <| Zan <| Zab <| Zac <| Zas <| Zac ?_
 refine Zaa <| rp 9 (.int .i64 ((i : Nat) : Int)) <| rp 3 (.int .i64 ((i : Nat) : Int)) <| Zad <| Zab <| Zac <| Zaa <| rp 10 (.int .i64 ((i : Nat) : Int)) <| rp 11 (.int .i64 0) <| Zad <| Zab <| Zas ?_
 refine Zb1 (X := Nat) (fun q => [(11, .int .i64 ((q : Nat) : Int)), (10, .int .i64 ((i : Nat) : Int)), (3, .int .i64 ((i : Nat) : Int)), (7, .int .i64 ((i : Nat) : Int)), (0, .slice (some ⟨g1, o1, none⟩) n c), (6, .int .i64 n)]) (fun q v => Bl w v /\ q <= i /\ (i = i0 -> q <= k0)) (fun q => i - q) 0 (by exact ⟨fun _ => by kernel_rfl, ⟨fun _ => by kernel_rfl, ⟨fun _ => by kernel_rfl, ⟨fun _ => by kernel_rfl, ⟨fun _ => by kernel_rfl, ⟨fun _ => by kernel_rfl, trivial⟩⟩⟩⟩⟩⟩) ⟨hB, Nat.zero_le _, fun _ => Nat.zero_le _⟩ ?_
 clear hB
 rintro q v2 ⟨hB, hqi, hk2⟩
 show CW _ _ _ _ _ _ _ [(11, .int .i64 ((q : Nat) : Int)), (10, .int .i64 ((i : Nat) : Int)), (3, .int .i64 ((i : Nat) : Int)), (7, .int .i64 ((i : Nat) : Int)), (0, .slice (some ⟨g1, o1, none⟩) n c), (6, .int .i64 n)] _
 by_cases hq : q < i
 ·skip
  obtain ⟨g3, o3, a2, n2, c2, e2, hc2, hs2⟩ := hL0.row q (by omega)
  cases e2
  have ls2 := hs2.len
  have hm2 : (M.getD q []).length <= 140737488351232 := hM _ (by rw [List.getD, List.getElem?_eq_getElem (by omega)]; exact List.getElem_mem _)
  have hcq : Cla M i q \/ ¬ Cla M i q := Classical.em _
  unfold Cla at hcq hcl
  obtain ⟨x, ex⟩ : ∃ x, M.getD i [] = x := ⟨_, rfl⟩
  obtain ⟨y, ey⟩ : ∃ y, M.getD q [] = y := ⟨_, rfl⟩
  rw [ex] at hs1 ls1 hm1 hcq
  rw [ey] at hs2 ls2 hm2 hcq
  refine Zac <| Zaa <| rv 12 (.bool true) (fun _ => Zaj (v := .bool (decide (((q : Nat) : Int) < ((i : Nat) : Int)))) (by kernel_rfl) (congrArg Value.bool (decide_eq_true (by omega)))) <| Zad <| Zab <| Zac <| Zak (fun _ => by kernel_rfl) <| Zan <| Zab <| Zac <| Zas <| Zac ?_
  refine Zaa <| rp 13 (.int .i64 ((q : Nat) : Int)) <| rp 4 (.int .i64 ((q : Nat) : Int)) <| Zad <| Zab <| Zac <| Za1 (fun v => Bl w v) (by kernel_rfl) (hB.drew) ?_
  replace hB := hB.drew
  refine dt 0 14 (.slice (some ⟨g1, o1, none⟩) n c) (fun v hv _ => by kernel_rfl) hB <| dt 1 15 (.int .i64 ((i : Nat) : Int)) (fun v hv _ => by kernel_rfl) hB <| dt 2 16 (.pointer (some ⟨g1, o1 + i * 1, none⟩)) (fun v hv _ => Za0 28 _ _ g1 o1 i n c 1 23 rfl (by kernel_rfl) (by kernel_rfl) (by omega) Tryz.underlying28 (by kernel_rfl)) hB <| dt 3 17 (.slice a1 n1 c1) (fun v hv _ => Zai 23 _ _ _ _ rfl (by kernel_rfl) ((Below.cell hv (block_lt_of_cell hc1)).trans hc1) Tryz.underlying23 rfl) hB <| dt 4 18 (.string (strOfNums x)) (fun v hv _ => (hs1.go hv).run_str _ _ _ rfl (by kernel_rfl)) hB <| dt 5 19 (.slice (some ⟨g1, o1, none⟩) n c) (fun v hv _ => by kernel_rfl) hB <| dt 6 20 (.int .i64 ((q : Nat) : Int)) (fun v hv _ => by kernel_rfl) hB <| dt 7 21 (.pointer (some ⟨g1, o1 + q * 1, none⟩)) (fun v hv _ => Za0 28 _ _ g1 o1 q n c 1 23 rfl (by kernel_rfl) (by kernel_rfl) (by omega) Tryz.underlying28 (by kernel_rfl)) hB <| dt 8 22 (.slice a2 n2 c2) (fun v hv _ => Zai 23 _ _ _ _ rfl (by kernel_rfl) ((Below.cell hv (block_lt_of_cell hc2)).trans hc2) Tryz.underlying23 rfl) hB <| dt 9 23 (.string (strOfNums y)) (fun v hv _ => (hs2.go hv).run_str _ _ _ rfl (by kernel_rfl)) hB <| dt 10 24 (.bool (!decide (x = y))) (fun v hv _ => Zy8 9 _ _ _ (strOfNums x) (strOfNums y) rfl (by kernel_rfl) (by kernel_rfl) (congrArg Bool.not (Zee hs1.ag.b hs2.ag.b))) hB <| dt 11 25 (.bool (!decide (x = y))) (fun v hv _ => by kernel_rfl) hB ?_
  by_cases hxy : x = y
  ·skip
   rw [show (!decide (x = y)) = false from by simp [hxy]]
   have hnc : ¬ (x ≠ y /\ dref x = dref y) := fun h => h.1 hxy
   refine df 12 26 hB <| df 13 27 hB <| df 14 28 hB <| df 15 29 hB <| df 16 30 hB <| df 17 31 hB <| df 18 32 hB <| df 19 33 hB <| df 20 34 hB <| df 21 35 hB <| df 22 36 hB <| dt 23 37 (.bool false) (fun v hv _ => by kernel_rfl) hB ?_
   refine Zat (by kernel_rfl) <| Zab <| Zaf (fun _ => by kernel_rfl) <| Zan <| Za2 <| Zab <| Zaa <| rv 38 (.int .i64 (((q : Nat) : Int) + 1)) (fun _ => Zaj (v := .int .i64 (IntKind.i64.wrap (((q : Nat) : Int) + 1))) (by kernel_rfl) (congrArg (Value.int .i64) (Zbl (by omega) (by omega)))) <| rp 11 (.int .i64 (((q : Nat) : Int) + 1)) <| Zad ?_
   exact Zbc (E := fun q => [(11, .int .i64 ((q : Nat) : Int)), (10, .int .i64 ((i : Nat) : Int)), (3, .int .i64 ((i : Nat) : Int)), (7, .int .i64 ((i : Nat) : Int)), (0, .slice (some ⟨g1, o1, none⟩) n c), (6, .int .i64 n)]) (R := fun q v => Bl w v /\ q <= i /\ (i = i0 -> q <= k0)) (μ := fun q => i - q) (x := q) (q + 1) (by exact ⟨fun _ => by kernel_rfl, ⟨fun _ => by kernel_rfl, ⟨fun _ => by kernel_rfl, ⟨fun _ => by kernel_rfl, ⟨fun _ => by kernel_rfl, ⟨fun _ => by kernel_rfl, trivial⟩⟩⟩⟩⟩⟩) ⟨hB, by show q + 1 <= i; omega, fun e => by
      subst e
      have h1 := hk2 rfl
      rcases Nat.lt_or_ge q k0 with h2 | h2
      ·exact h2
      ·obtain rfl : q = k0 := by omega
       rw [ex, ey] at hcl
       exact absurd hcl hnc⟩ (by show i - (q + 1) < i - q; omega)
  ·skip
   rw [show (!decide (x = y)) = true from by simp [hxy]]
   refine dt 12 26 (.slice (some ⟨g1, o1, none⟩) n c) (fun v hv _ => by kernel_rfl) hB <| dt 13 27 (.int .i64 ((i : Nat) : Int)) (fun v hv _ => by kernel_rfl) hB <| dt 14 28 (.pointer (some ⟨g1, o1 + i * 1, none⟩)) (fun v hv _ => Za0 28 _ _ g1 o1 i n c 1 23 rfl (by kernel_rfl) (by kernel_rfl) (by omega) Tryz.underlying28 (by kernel_rfl)) hB <| dt 15 29 (.slice a1 n1 c1) (fun v hv _ => Zai 23 _ _ _ _ rfl (by kernel_rfl) ((Below.cell hv (block_lt_of_cell hc1)).trans hc1) Tryz.underlying23 rfl) hB <| dt 17 31 (.slice (some ⟨g1, o1, none⟩) n c) (fun v hv _ => by kernel_rfl) hB <| dt 18 32 (.int .i64 ((q : Nat) : Int)) (fun v hv _ => by kernel_rfl) hB <| dt 19 33 (.pointer (some ⟨g1, o1 + q * 1, none⟩)) (fun v hv _ => Za0 28 _ _ g1 o1 q n c 1 23 rfl (by kernel_rfl) (by kernel_rfl) (by omega) Tryz.underlying28 (by kernel_rfl)) hB <| dt 20 34 (.slice a2 n2 c2) (fun v hv _ => Zai 23 _ _ _ _ rfl (by kernel_rfl) ((Below.cell hv (block_lt_of_cell hc2)).trans hc2) Tryz.underlying23 rfl) hB <| Zag [16] (by kernel_rfl) (by simp) ?_
   refine Zar 16 30 41 #[.slice a1 n1 c1] rfl (fun _ => by kernel_rfl) (fun _ => by kernel_rfl) (R := fun u w' => u = .agg (B8 (dref x)) /\ Bl (v2.drew) w') ((Zi6 a1 n1 c1 x (v2.drew) (hs1.go hB).ag (by omega)).mono (fun e w' h => ⟨_, h.1, rfl, h.2⟩)) (fun u w' h => hB.go h.2) ?_ Zao
   rintro _ u1 ⟨rfl, hb2⟩
   replace hB := hB.go hb2
   refine Zag [21] (by kernel_rfl) (by simp) ?_
   refine Zar 21 35 41 #[.slice a2 n2 c2] rfl (fun _ => by kernel_rfl) (fun _ => by kernel_rfl) (R := fun u w' => u = .agg (B8 (dref y)) /\ Bl (u1) w') ((Zi6 a2 n2 c2 y (u1) (hs2.go hB).ag (by omega)).mono (fun e w' h => ⟨_, h.1, rfl, h.2⟩)) (fun u w' h => hB.go h.2) ?_ Zao
   rintro _ u3 ⟨rfl, hb4⟩
   replace hB := hB.go hb4
   refine dt 22 36 (.bool (dref x == dref y)) (fun v hv _ => Zql rfl (by kernel_rfl) (by kernel_rfl) (dref_len _) (dref_len _)) hB <| dt 23 37 (.bool (dref x == dref y)) (fun v hv _ => by kernel_rfl) hB <| Zat (by kernel_rfl) <| Zab ?_
   by_cases hdd : dref x = dref y
   ·skip
    rw [show (dref x == dref y) = true from by simp [hdd]]
    refine Zak (fun _ => by kernel_rfl) <| Zac <| Zaa <| rp 2 (.bool true) <| Zad <| Zab <| Zam <| Zau <| Zah <| Zah <| Zau <| Zau ?_
    refine Zah <| Zah <| Zau <| Zah ?_
    exact Zae (.bool true) (fun _ => by kernel_rfl) ⟨_, rfl, rfl, hB⟩
   ·skip
    rw [show (dref x == dref y) = false from by simp [hdd]]
    have hnc : ¬ (x ≠ y /\ dref x = dref y) := fun h => hdd h.2
    refine Zaf (fun _ => by kernel_rfl) <| Zan <| Za2 <| Zab <| Zaa <| rv 38 (.int .i64 (((q : Nat) : Int) + 1)) (fun _ => Zaj (v := .int .i64 (IntKind.i64.wrap (((q : Nat) : Int) + 1))) (by kernel_rfl) (congrArg (Value.int .i64) (Zbl (by omega) (by omega)))) <| rp 11 (.int .i64 (((q : Nat) : Int) + 1)) <| Zad ?_
    exact Zbc (E := fun q => [(11, .int .i64 ((q : Nat) : Int)), (10, .int .i64 ((i : Nat) : Int)), (3, .int .i64 ((i : Nat) : Int)), (7, .int .i64 ((i : Nat) : Int)), (0, .slice (some ⟨g1, o1, none⟩) n c), (6, .int .i64 n)]) (R := fun q v => Bl w v /\ q <= i /\ (i = i0 -> q <= k0)) (μ := fun q => i - q) (x := q) (q + 1) (by exact ⟨fun _ => by kernel_rfl, ⟨fun _ => by kernel_rfl, ⟨fun _ => by kernel_rfl, ⟨fun _ => by kernel_rfl, ⟨fun _ => by kernel_rfl, ⟨fun _ => by kernel_rfl, trivial⟩⟩⟩⟩⟩⟩) ⟨hB, by show q + 1 <= i; omega, fun e => by
       subst e
       have h1 := hk2 rfl
       rcases Nat.lt_or_ge q k0 with h2 | h2
       ·exact h2
       ·obtain rfl : q = k0 := by omega
        rw [ex, ey] at hcl
        exact absurd hcl hnc⟩ (by show i - (q + 1) < i - q; omega)
 obtain rfl : i = q := by omega
 show CW _ _ _ _ _ _ _ [(11, .int .i64 ((i : Nat) : Int)), (10, .int .i64 ((i : Nat) : Int)), (3, .int .i64 ((i : Nat) : Int)), (7, .int .i64 ((i : Nat) : Int)), (0, .slice (some ⟨g1, o1, none⟩) n c), (6, .int .i64 n)] _
 refine Zac <| Zaa <| rv 12 (.bool false) (fun _ => Zaj (v := .bool (decide (((i : Nat) : Int) < ((i : Nat) : Int)))) (by kernel_rfl) (congrArg Value.bool (decide_eq_false (by omega)))) <| Zad <| Zab <| Zac <| Zaf (fun _ => by kernel_rfl) <| Zbs <| Zaq <| Zaq <| Za4 <| Za2 ?_
 refine Zab <| Zaa <| rv 39 (.int .i64 (((i : Nat) : Int) + 1)) (fun _ => Zaj (v := .int .i64 (IntKind.i64.wrap (((i : Nat) : Int) + 1))) (by kernel_rfl) (congrArg (Value.int .i64) (Zbl (by omega) (by omega)))) <| rp 7 (.int .i64 (((i : Nat) : Int) + 1)) <| Zad ?_
 exact Zbc (E := fun q => [(7, .int .i64 ((q : Nat) : Int)), (0, .slice (some ⟨g1, o1, none⟩) n c), (6, .int .i64 n)]) (R := fun q v => Bl w v /\ q <= i0) (μ := fun q => n - q) (x := i) (i + 1) (by exact ⟨fun _ => by kernel_rfl, ⟨fun _ => by kernel_rfl, ⟨fun _ => by kernel_rfl, trivial⟩⟩⟩) ⟨hB, by show i + 1 <= i0; rcases Nat.lt_or_ge i i0 with q | q; omega; exact absurd (hk2 (by omega)) (by omega)⟩ (by show n - (i + 1) < n - i; omega)
end Go.Proofs.YtefhepcplempkaaGreat
namespace Go.Proofs.YtefhepcplempkaaGreat
open Tr
open Ni (unpP packP rightP)
def Vb : Tr -> Prop
 | no => True
 | leaf p v => isB p /\ isB v /\ v.length <= 256
 | ext p c => isB p /\ Vb c
 | br k v => (isB v /\ v.length <= 256) /\ ∀ i, i < 16 -> Vb (k i)
theorem TA.vb {K : Nat -> Prop} {w : World} : ∀ {t : Tr} {v : Value}, TA K w t v -> Vb t := by
 intro t
 induction t with
 | no => intro v h; trivial
 | leaf p x => rintro v ⟨a, n, c, a', n', c', h1, h2, h3, h4⟩; exact ⟨h2.ag.b, h3.ag.b, by rw [h3.ag.l]; exact h4⟩
 | ext p t ih => rintro v ⟨a, n, c, u, h1, h2, h3⟩; exact ⟨h2.ag.b, ih h3⟩
 | br k x ih => rintro v ⟨vs, a, n, c, h1, h2, h3, h4⟩; exact ⟨⟨h3.ag.b, by rw [h3.ag.l]; exact h4⟩, fun i hi => ih i (h2 i hi)⟩
theorem Znd {p : List Int} (h : Nb p) : rightP p = true := by
 unfold rightP
 rw [List.all_eq_true]
 intro x hx
 have := h x hx
 simp; omega
theorem Zjx : ∀ {l : List T}, (∀ t ∈ l, byt t) -> byts l
 | [], _ => by rw [byts]; trivial
 | t :: r, h => by rw [byts]; exact ⟨h t (by simp), Zjx fun u hu => h u (List.mem_cons_of_mem _ hu)⟩
theorem Zp9 (b : List Int) (h : isB b) : okR (referP b) := by
 unfold referP
 split
 ·exact ⟨fun x hx => by rw [List.mem_replicate.1 hx |>.2]; omega, rfl, h⟩
 ·exact ⟨Ze6 b, Di.dref_len b, fun x hx => by simp at hx⟩
theorem Zw6 : okR r0 := ⟨fun x hx => by rw [List.mem_replicate.1 hx |>.2]; omega, rfl, fun x hx => by simp [r0] at hx⟩
structure Wn (n : PN) : Prop where
 ok : okN n
 r : NR n = true
 y : byt (itemP n)
theorem Wn.isB {n : PN} (h : Wn n) : isB (NEP n).1 /\ ND (NEP n).1 = some n /\ (NEP n).1.length <= 65540 := by
 have hb := Zc3 h.ok h.r
 unfold NEP
 rw [if_pos h.r]
 have hi : Go.Proofs.YtefhepcplempkaaGreat.isB (NE n) := Zir _ h.y (by have := Zcq (itemP n); have := hb.2.2; omega)
 exact ⟨hi, Z0b h.ok h.r hi, hb.2.2⟩
theorem Wn.ref {n : PN} (h : Wn n) : rrefP KD (referP (NEP n).1) = true /\ (referP (NEP n).1).k ≠ 0 /\ ((referP (NEP n).1).k = 2 \/ KD (referP (NEP n).1).i = n.k) /\ byt (refItemP (referP (NEP n).1)) := by
 obtain ⟨h1, h2, h3⟩ := h.isB
 have hk := Zsu h.r
 have hkd : KD (NEP n).1 = n.k := by unfold KD; rw [h2]; rfl
 unfold referP
 by_cases hl : (NEP n).1.length < 32
 ·rw [if_pos hl]
  refine ⟨by simp [rrefP, hl, hkd]; omega, by simp, .inr hkd, ?_⟩
  have hd : decP (NEP n).1 = .ok (itemP n) := by unfold NEP; rw [if_pos h.r]; exact Zhk (Zc3 h.ok h.r).1
  simp only [refItemP, if_pos, hd]
  exact h.y
 ·rw [if_neg hl]
  refine ⟨by simp [rrefP], by simp, .inl rfl, ?_⟩
  show byt (.mk false (Di.dref (NEP n).1) [])
  rw [Zf3]
  exact ⟨Ze6 _, by rw [byts]; trivial⟩
theorem Zvn {p : List Int} (h : isB p) (f : Bool) : byt (.mk false (packP p f).1 []) := by rw [Zf3]; exact ⟨Ni.packP_isB h, by rw [byts]; trivial⟩
theorem Zv6 {p : List Int} (h : isB p) : byt (.mk false p []) := by rw [Zf3]; exact ⟨h, by rw [byts]; trivial⟩
theorem Zs5 {k : Nat -> Tr} {x : List Int} (h : Tr.two k x) (hk : ∀ i, k i = no \/ i < 16) (f : Nat -> PR) (h0 : ∀ i, k i ≠ no -> (f i).k ≠ 0) : 2 <= (if 0 < x.length then 1 else 0) + ways ((List.range 16).map f) := by
 have hw : ∀ n i, i < n -> (f i).k ≠ 0 -> 1 <= ways ((List.range n).map f) := by
  have happ : ∀ a b : List PR, ways (a ++ b) = ways a + ways b := by
   intro a b
   induction a with
   | nil => simp [ways]
   | cons r l ih => simp only [List.cons_append, ways, ih]; omega
  intro n
  induction n with
  | zero => intro i hi; omega
  | succ n ih =>
   intro i hi hf
   rw [List.range_succ, List.map_append, happ]
   by_cases e : i = n
   ·subst e; simp only [List.map_cons, List.map_nil, ways, if_pos hf]; omega
   ·have := ih i (by omega) hf; omega
 have hw2 : ∀ n i j, i < j -> j < n -> (f i).k ≠ 0 -> (f j).k ≠ 0 -> 2 <= ways ((List.range n).map f) := by
  have happ : ∀ a b : List PR, ways (a ++ b) = ways a + ways b := by
   intro a b
   induction a with
   | nil => simp [ways]
   | cons r l ih => simp only [List.cons_append, ways, ih]; omega
  intro n
  induction n with
  | zero => intro i j _ hj; omega
  | succ n ih =>
   intro i j hij hj hf hg
   rw [List.range_succ, List.map_append, happ]
   by_cases e : j = n
   ·subst e
    have := hw j i hij hf
    simp only [List.map_cons, List.map_nil, ways, if_pos hg]; omega
   ·have := ih i j hij (by omega) hf hg; omega
 have hlt : ∀ i, k i ≠ no -> i < 16 := fun i hi => (hk i).resolve_left hi
 rcases h with ⟨i, j, hne, hi, hj⟩ | ⟨hx, i, hi⟩
 ·have : 2 <= ways ((List.range 16).map f) := by
   rcases Nat.lt_or_gt_of_ne hne with q | q
   ·exact hw2 16 i j q (hlt j hj) (h0 i hi) (h0 j hj)
   ·exact hw2 16 j i q (hlt i hi) (h0 j hj) (h0 i hi)
  omega
 ·have h1 := hw 16 i (hlt i hi) (h0 i hi)
  have : 0 < x.length := List.length_pos_iff.2 hx
  rw [if_pos this]; omega
theorem Zh7 : ∀ (t : Tr) {B : Nat}, Tr.Ok B t -> B <= 64 -> Vb t -> Wn (nodeP t) := by
 intro t
 induction t with
 | no => intro B h; exact h.elim
 | leaf p x =>
  intro B h hB hv
  obtain ⟨h1, h2, h3⟩ := h
  obtain ⟨v1, v2, v3⟩ := hv
  have hx : 0 < x.length := List.length_pos_iff.2 h3
  refine ⟨⟨v1, v2, Zw6, fun r hr => by simp [nodeP] at hr⟩, ?_, ?_⟩
  ·have hr := Znd h1
   simp [NR, nright, nodeP, knownP, rpathP, rvalueP, rchildP, rkidsP, rrefP, r0, hr]
   exact ⟨decide_eq_true (Nat.le_trans h2 hB), h3, decide_eq_true v3⟩
  ·show byt (.mk true [] [.mk false (packP p true).1 [], .mk false x []])
   rw [Zf3]
   exact ⟨(fun y hy => by simp at hy), Zjx fun u hu => by
    simp at hu
    rcases hu with rfl | rfl
    ·exact Zvn v1 true
    ·exact Zv6 v2⟩
 | ext p c ih =>
  intro B h hB hv
  obtain ⟨h1, h2, h3, h4, h5⟩ := h
  have hw := ih h5 (by omega) hv.2
  have hcn : c ≠ no := h5.ne
  have he := Zbj hcn
  obtain ⟨w1, w2, w3, w4⟩ := hw.ref
  obtain ⟨i1, i2, i3⟩ := hw.isB
  have hk3 : (nodeP c).k = 3 := by cases c with
   | br k x => rfl
   | no => cases h4
   | leaf _ _ => cases h4
   | ext _ _ => cases h4
  rw [<- he] at w1 w2 w3 w4 i1
  rw [hk3] at w3
  refine ⟨⟨hv.1, (fun x hx => by simp [nodeP] at hx), Zp9 _ i1, fun r hr => by simp [nodeP] at hr⟩, ?_, ?_⟩
  ·have hr := Znd h1
   have hp : p.length ≠ 0 := fun e => h2 (List.eq_nil_of_length_eq_zero e)
   simp only [NR, nright, nodeP, knownP, rpathP, rvalueP, rchildP, rkidsP, w1, hr]
   simp [h2]
   exact ⟨decide_eq_true (Nat.le_trans h3 hB), w3.imp (fun q => decide_eq_true q) (fun q => decide_eq_true q)⟩
  ·show byt (.mk true [] [.mk false (packP p false).1 [], refItemP (referP (encT c))])
   rw [Zf3]
   exact ⟨(fun y hy => by simp at hy), Zjx fun u hu => by
    simp at hu
    rcases hu with rfl | rfl
    ·exact Zvn hv.1 false
    ·exact w4⟩
 | br k x ih =>
  intro B h hB hv
  obtain ⟨h1, h2⟩ := h
  have hkid : ∀ i, k i ≠ no -> i < 16 /\ Wn (nodeP (k i)) := fun i hi => by
   rcases h1 i with q | ⟨q1, q2, q3⟩
   ·exact absurd q hi
   ·exact ⟨q1, ih i q3 (by omega) (hv.2 i q1)⟩
  have hno : ∀ i, (k i).isNo = false -> k i ≠ no := fun i hi e => by rw [e] at hi; cases hi
  have hall : ∀ r ∈ (nodeP (br k x)).ks, ∃ i, r = if (k i).isNo then r0 else referP (encT (k i)) := by
   intro r hr
   simp only [nodeP, List.mem_map] at hr
   obtain ⟨i, _, e⟩ := hr
   exact ⟨i, e.symm⟩
  refine ⟨⟨(fun y hy => by simp [nodeP] at hy), hv.1.1, Zw6, fun r hr => ?_⟩, ?_, ?_⟩
  ·obtain ⟨i, rfl⟩ := hall r hr
   cases hq : (k i).isNo with
   | true => rw [if_pos rfl]; exact Zw6
   | false =>
    rw [if_neg (by simp), Zbj (hno i hq)]
    exact Zp9 _ (hkid i (hno i hq)).2.isB.1
  ·have hk : (nodeP (br k x)).ks.all (rrefP KD) = true := by
    rw [List.all_eq_true]
    intro r hr
    obtain ⟨i, rfl⟩ := hall r hr
    cases hq : (k i).isNo with
    | true => rw [if_pos rfl]; simp [rrefP, r0]
    | false =>
     rw [if_neg (by simp), Zbj (hno i hq)]
     exact (hkid i (hno i hq)).2.ref.1
   have hw := Zs5 h2 (fun i => (h1 i).imp id (fun q => q.1)) (fun i => if (k i).isNo then r0 else referP (encT (k i))) (fun i hi => by
    have hq : (k i).isNo = false := by
     cases hq : (k i).isNo with
     | false => rfl
     | true => exact absurd (isNo_iff.1 hq) hi
    simp only [hq]
    rw [if_neg (by simp), Zbj hi]
    exact (hkid i hi).2.ref.2.1)
   simp only [NR, nright, knownP, rpathP, rvalueP, rchildP, rkidsP, hk]
   simp only [nodeP] at hw ⊢
   simp [rrefP, r0] at hw ⊢
   exact ⟨decide_eq_true hv.1.2, decide_eq_true hw⟩
  ·show byt (.mk true [] ((nodeP (br k x)).ks.map refItemP ++ [.mk false x []]))
   rw [Zf3]
   refine ⟨(fun y hy => by simp at hy), Zjx fun u hu => ?_⟩
   rcases List.mem_append.1 hu with q | q
   ·obtain ⟨r, hr, rfl⟩ := List.mem_map.1 q
    obtain ⟨i, rfl⟩ := hall r hr
    cases hq : (k i).isNo with
    | true => rw [if_pos rfl]; exact Zv6 (p := []) (fun y hy => by simp at hy)
    | false =>
     rw [if_neg (by simp), Zbj (hno i hq)]
     exact (hkid i (hno i hq)).2.ref.2.2.2
   ·rw [List.mem_singleton.1 q]; exact Zv6 hv.1.1
def Kys (p : List Int) (t : Tr) : Prop := Nb p /\ ∀ q, Nb q -> Tr.get t q ≠ [] -> ∃ k, Byk k /\ k.length <= 32 /\ p ++ q = Ni.nib k
end Go.Proofs.YtefhepcplempkaaGreat
namespace Go.Proofs.YtefhepcplempkaaGreat
open Go.RowKit
def Gd (K : Nat -> Prop) (w : World) (p : Value × List Int) : Prop := ∃ a n c, p.1 = .slice a n c /\ Sk K w a n c p.2
theorem Gd.tou {K : Nat -> Prop} {w w' : World} {g : Nat} {p : Value × List Int} (h : Gd K w p) (t : Touch g w w') (hg : ¬ K g) : Gd K w' p := by
 obtain ⟨a, n, c, h1, h2⟩ := h
 exact ⟨a, n, c, h1, h2.tou t hg⟩
theorem Touch.setCells (g : Nat) : ∀ (vs : List Value) (w : World) (o : Nat), Touch g w (w.setCells g o vs)
 | [], w, o => Touch.refl g w
 | v :: r, w, o => (Touch.setCell g w o v).trans (Touch.setCells g r _ _)
theorem Zkr {w : World} {ρ : Operand -> Value} {o : Oper} (x y : Operand) (g off k l c l2 c2 : Nat) (ho : o.op = .slice 28 x (some y) none none) (hx : ρ x = .slice (some ⟨g, off, none⟩) l c) (hy : ρ y = .int .i64 ((k : Nat) : Int)) (hl : l = k + l2) (hc : c = k + c2) (h0 : 0 < c2) : (execOp ρ o).run Tryz.prog w = .ok (.value (.slice (some ⟨g, off + k * 1, none⟩) l2 c2)) w := by
 subst hl hc
 unfold execOp
 rw [ho]
 have h2 : k + l2 - k = l2 := by omega
 have h3 : k + c2 - k = c2 := by omega
 simp [hx, hy, Instr.sliceAt, run_underlying Tryz.underlying28, Instr.slice, Instr.sliceBounds, Instr.sliceBound, asIntOf, h2, h3, Result.andThen, Zay]
 omega
theorem Zw1 {w : World} {ρ : Operand -> Value} {o : Oper} (x y : Operand) (g off k l c : Nat) (ho : o.op = .slice 28 x none (some y) none) (hx : ρ x = .slice (some ⟨g, off, none⟩) l c) (hy : ρ y = .int .i64 ((k : Nat) : Int)) (hk : k <= c) (h0 : 0 < c) : (execOp ρ o).run Tryz.prog w = .ok (.value (.slice (some ⟨g, off, none⟩) k c)) w := by
 unfold execOp
 rw [ho]
 have h1 : ¬ (c = 0) := by omega
 simp [hx, hy, Instr.sliceAt, run_underlying Tryz.underlying28, Instr.slice, Instr.sliceBounds, Instr.sliceBound, asIntOf, h1, hk, Result.andThen, Zay]
theorem Ztv {w : World} {ρ : Operand -> Value} {o : Oper} (x : Operand) (g off l c : Nat) (cur : Array Value) (ho : o.op = .call { callee := .builtin .clear, args := #[x], argTypes := #[28] }) (hx : ρ x = .slice (some ⟨g, off, none⟩) l c) (hr : Rw g w cur 23) (hl : 0 < l) (hs : off + l <= cur.size) : (execOp ρ o).run Tryz.prog w = .ok (.value (.tuple #[])) (w.setCells g off (List.replicate l (.slice none 0 0))) := by
 have hrun := fun ty => Lib.run_clear_slice (P := Tryz.prog) w 28 23 ty (.slice none 0 0) Tryz.underlying28 Tryz.zeroValue23 rfl rfl g off l c hl (fun j hj => by rw [cell_of_row _ _ _ _ _ _ hr]; simp; omega) (fun j hj => frozen_of_row _ _ _ _ _ hr)
 unfold execOp
 simp only [ho, resolve, invoke, builtin, Sem.run_bind, Sem.run_pure, Result.andThen_ok, List.map_toArray, List.map_cons, List.map_nil, hx, hrun]
structure CI (K : Nat -> Prop) (w : World) (gb n cap m : Nat) (ps : List (Value × List Int)) (m2 q : Nat) (cu : Array Value) (qs : List (Value × List Int)) (v : World) : Prop where
 r : Rw gb v cu 23
 t : Touch gb w v
 le : m + 1 + (m2 + 1) <= n
 sz : cu.size = cap
 ql : qs.length = q
 qm : q <= m + m2 + 1
 ddq : qs.map Prod.snd = dd ((ps.map Prod.snd).take (m + 1 + (m2 + 1)))
 gd : ∀ p ∈ qs, Gd K w p
 tk : cu.toList.take q = qs.map Prod.fst
 rest : ∀ j, m + m2 + 1 <= j -> j < n -> cu[j]? = (ps[j]?).map Prod.fst
theorem CI.go {K : Nat -> Prop} {w : World} {gb n cap m : Nat} {ps : List (Value × List Int)} {m2 q : Nat} {cu : Array Value} {qs : List (Value × List Int)} {v v' : World} (h : CI K w gb n cap m ps m2 q cu qs v) (hb : Below v.heap.size v v') : CI K w gb n cap m ps m2 q cu qs v' :=
 ⟨h.r.go hb, h.t.trans (Touch.of_below hb), h.le, h.sz, h.ql, h.qm, h.ddq, h.gd, h.tk, h.rest⟩
theorem CI.drew {K : Nat -> Prop} {w : World} {gb n cap m : Nat} {ps : List (Value × List Int)} {m2 q : Nat} {cu : Array Value} {qs : List (Value × List Int)} {v : World} (h : CI K w gb n cap m ps m2 q cu qs v) : CI K w gb n cap m ps m2 q cu qs v.drew := h.go (Below.refl _ _).drew
theorem Zs9 {M : List (List Int)} {i : Nat} {a b : List Int} (ha : M[i]? = some a) (hb : M[i + 1]? = some b) : M.take (i + 2) = M.take i ++ [a, b] /\ M.take (i + 1) = M.take i ++ [a] := by
 have e1 : M.take (i + 1) = M.take i ++ [a] := by rw [List.take_add_one, ha]; rfl
 have e2 : M.take (i + 2) = M.take (i + 1) ++ [b] := by rw [List.take_add_one, hb]; rfl
 exact ⟨by rw [e2, e1]; simp, e1⟩
theorem Zjt {M : List (List Int)} {i : Nat} {a b : List Int} (ha : M[i]? = some a) (hb : M[i + 1]? = some b) : dd (M.take (i + 2)) = dd (M.take (i + 1)) ++ (if b = a then [] else [b]) := by
 obtain ⟨h1, h2⟩ := Zs9 ha hb
 rw [h1, h2]; exact Zx0 _ _ _
theorem CI.start {K : Nat -> Prop} {w v : World} {gb n cap m : Nat} {ps : List (Value × List Int)} {cur : Array Value} (hr : Rw gb v cur 23) (ht : Touch gb w v) (hcur : cur.toList.take n = ps.map Prod.fst) (hsz : cur.size = cap) (hn : ps.length = n) (hg : ∀ p ∈ ps, Gd K w p) (hm : m + 1 < n) (hd : dd ((ps.map Prod.snd).take (m + 1)) = (ps.map Prod.snd).take (m + 1)) {p p' : Value × List Int} (h1 : ps[m]? = some p) (h2 : ps[m + 1]? = some p') (he : p'.2 = p.2) : CI K w gb n cap m ps 0 (m + 1) cur (ps.take (m + 1)) v := by
 have hM1 : (ps.map Prod.snd)[m]? = some p.2 := by rw [List.getElem?_map, h1]; rfl
 have hM2 : (ps.map Prod.snd)[m + 1]? = some p'.2 := by rw [List.getElem?_map, h2]; rfl
 refine ⟨hr, ht, by omega, hsz, by simp; omega, by omega, ?_, fun p hp => hg p (List.mem_of_mem_take hp), ?_, fun j _ hj => ?_⟩
 ·rw [show m + 1 + (0 + 1) = m + 2 from rfl, Zjt hM1 hM2, if_pos he, List.append_nil, hd, List.map_take]
 ·have := congrArg (List.take (m + 1)) hcur
  rw [List.take_take, Nat.min_eq_left (by omega)] at this
  rw [this, List.map_take]
 ·rw [<- List.getElem?_map, <- hcur, List.getElem?_take_of_lt hj, Array.getElem?_toList]
theorem CI.keep {K : Nat -> Prop} {w : World} {gb n cap m : Nat} {ps : List (Value × List Int)} {m2 q : Nat} {cu : Array Value} {qs : List (Value × List Int)} {v : World} (h : CI K w gb n cap m ps m2 q cu qs v) {p p' : Value × List Int} (h1 : ps[m + m2 + 1]? = some p) (h2 : ps[m + m2 + 1 + 1]? = some p') (hn : m + 1 + (m2 + 1) < n) (he : p'.2 = p.2) : CI K w gb n cap m ps (m2 + 1) q cu qs v := by
 have hM1 : (ps.map Prod.snd)[m + m2 + 1]? = some p.2 := by rw [List.getElem?_map, h1]; rfl
 have hM2 : (ps.map Prod.snd)[m + m2 + 1 + 1]? = some p'.2 := by rw [List.getElem?_map, h2]; rfl
 have hq := h.qm
 refine ⟨h.r, h.t, by omega, h.sz, h.ql, by omega, ?_, h.gd, h.tk, fun j hj hj2 => h.rest j (by omega) hj2⟩
 rw [show m + 1 + (m2 + 1 + 1) = m + m2 + 1 + 2 from by omega, Zjt hM1 hM2, if_pos he, List.append_nil, h.ddq, show m + 1 + (m2 + 1) = m + m2 + 1 + 1 from by omega]
theorem CI.move {K : Nat -> Prop} {w : World} {gb n cap m : Nat} {ps : List (Value × List Int)} {m2 q : Nat} {cu : Array Value} {qs : List (Value × List Int)} {v v' : World} (h : CI K w gb n cap m ps m2 q cu qs v) {p p' : Value × List Int} (h1 : ps[m + m2 + 1]? = some p) (h2 : ps[m + m2 + 1 + 1]? = some p') (hn : m + 1 + (m2 + 1) < n) (hc : n <= cap) (he : ¬ p'.2 = p.2) (hg : Gd K w p') (hs : Set1 v v' gb q p'.1) (h11 : p'.1.oneCell' = true) : CI K w gb n cap m ps (m2 + 1) (q + 1) (cu.setIfInBounds q p'.1) (qs ++ [p']) v' := by
 have hM1 : (ps.map Prod.snd)[m + m2 + 1]? = some p.2 := by rw [List.getElem?_map, h1]; rfl
 have hM2 : (ps.map Prod.snd)[m + m2 + 1 + 1]? = some p'.2 := by rw [List.getElem?_map, h2]; rfl
 have hq := h.qm
 have hsz := h.sz
 refine ⟨h.r.set hs rfl, h.t.trans hs.touch, by omega, by simp [h.sz], by simp [h.ql], by omega, ?_, ?_, ?_, fun j hj hj2 => ?_⟩
 ·rw [show m + 1 + (m2 + 1 + 1) = m + m2 + 1 + 2 from by omega, Zjt hM1 hM2, if_neg he, show m + m2 + 1 + 1 = m + 1 + (m2 + 1) from by omega, <- h.ddq, List.map_append]; rfl
 ·intro x hx
  rcases List.mem_append.1 hx with hx | hx
  ·exact h.gd x hx
  ·rw [List.mem_singleton.1 hx]; exact hg
 ·rw [Array.toList_setIfInBounds, List.take_add_one, List.map_append, <- h.tk]
  have : (cu.toList.set q p'.1)[q]? = some p'.1 := by rw [List.getElem?_set_self (by simp; omega)]
  rw [this, List.take_set_of_le (Nat.le_refl _)]; rfl
 ·rw [Array.getElem?_setIfInBounds_ne (by omega)]
  exact h.rest j (by omega) hj2
theorem CI.done {K : Nat -> Prop} {w : World} {gb n cap m : Nat} {ps : List (Value × List Int)} {m2 q : Nat} {cu : Array Value} {qs : List (Value × List Int)} {v : World} (h : CI K w gb n cap m ps m2 q cu qs v) (hn : ps.length = n) (hm : m + 1 + (m2 + 1) = n) (hK : ¬ K gb) (vs : List Value) : Bt K (v.setCells gb (0 + q * 1) vs) (some ⟨gb, 0, none⟩) q (dd (ps.map Prod.snd)) /\ Touch gb w (v.setCells gb (0 + q * 1) vs) := by
 have ht := h.t.trans (Touch.setCells gb vs v (0 + q * 1))
 have hd : qs.map Prod.snd = dd (ps.map Prod.snd) := by rw [h.ddq, hm, List.take_of_length_le (by simp; omega)]
 refine ⟨⟨by rw [<- hd, List.length_map, h.ql], fun j hj => ?_⟩, ht⟩
 have hjq : j < qs.length := by rw [h.ql]; exact hj
 obtain ⟨a, n', c, h1, h2⟩ := h.gd qs[j] (List.getElem_mem hjq)
 refine ⟨gb, 0, a, n', c, rfl, ?_, ?_⟩
 ·rw [World.cell?_setCells_out gb vs (0 + q * 1) v _ (fun _ _ => .inl (by show 0 + j * 1 < 0 + q * 1; omega)), cell_of_row _ _ _ _ _ _ h.r, <- h1]
  have := congrArg (fun l => l[j]?) h.tk
  simp only [List.getElem?_take_of_lt hj, List.getElem?_map, List.getElem?_eq_getElem hjq, Option.map_some, Array.getElem?_toList] at this
  rw [show 0 + j * 1 = j from by omega]
  exact this
 ·rw [<- hd]
  have e : (qs.map Prod.snd).getD j [] = qs[j].2 := by simp [List.getD, hjq]
  rw [e]
  exact h2.tou ht hK
theorem Zkc {K : Nat -> Prop} {w : World} {n : Nat} {ps : List (Value × List Int)} {cur : Array Value} (hcur : cur.toList.take n = ps.map Prod.fst) (hn : ps.length = n) (hg : ∀ p ∈ ps, Gd K w p) {j : Nat} (hj : j < n) : ∃ a m c x, ps[j]? = some (.slice a m c, x) /\ cur[j]? = some (.slice a m c) /\ Sk K w a m c x := by
 have hjp : j < ps.length := by omega
 obtain ⟨a, m, c, h1, h2⟩ := hg ps[j] (List.getElem_mem hjp)
 refine ⟨a, m, c, ps[j].2, ?_, ?_, h2⟩
 ·rw [List.getElem?_eq_getElem hjp, <- h1]
 ·have := congrArg (fun l => l[j]?) hcur
  simp only [List.getElem?_take_of_lt hj, List.getElem?_map, List.getElem?_eq_getElem hjp, Option.map_some, Array.getElem?_toList] at this
  rw [this, h1]
theorem Zzz (M : List (List Int)) (h : 0 < M.length) : dd (M.take (0 + 1)) = M.take (0 + 1) := by
 cases M with
 | nil => rfl
 | cons x M => simp [dd, ddg]
theorem Zuk (M : List (List Int)) (h : M.length < 2) : dd M = M := by
 match M, h with
 | [], _ => rfl
 | [x], _ => rfl
theorem dd_go {ps : List (Value × List Int)} {m : Nat} {p p' : Value × List Int} (h1 : ps[m]? = some p) (h2 : ps[m + 1]? = some p') (hd : dd ((ps.map Prod.snd).take (m + 1)) = (ps.map Prod.snd).take (m + 1)) (he : ¬ p'.2 = p.2) : dd ((ps.map Prod.snd).take (m + 1 + 1)) = (ps.map Prod.snd).take (m + 1 + 1) := by
 have hM1 : (ps.map Prod.snd)[m]? = some p.2 := by rw [List.getElem?_map, h1]; rfl
 have hM2 : (ps.map Prod.snd)[m + 1]? = some p'.2 := by rw [List.getElem?_map, h2]; rfl
 rw [Zjt hM1 hM2, if_neg he, hd, List.take_add_one (i := m + 1), hM2]; rfl
theorem Znx {K : Nat -> Prop} {w : World} {gb n : Nat} {ps : List (Value × List Int)} {cur : Array Value} (hr : Rw gb w cur 23) (hcur : cur.toList.take n = ps.map Prod.fst) (hn : ps.length = n) (hg : ∀ p ∈ ps, Gd K w p) (hd : dd (ps.map Prod.snd) = ps.map Prod.snd) : Bt K w (some ⟨gb, 0, none⟩) n (dd (ps.map Prod.snd)) := by
 rw [hd]
 refine ⟨by simp [hn], fun j hj => ?_⟩
 obtain ⟨a, m, c, x, h1, h2, h3⟩ := Zkc hcur hn hg hj
 refine ⟨gb, 0, a, m, c, rfl, ?_, ?_⟩
 ·rw [cell_of_row _ _ _ _ _ _ hr, show 0 + j * 1 = j from by omega]; exact h2
 ·rw [List.getD, List.getElem?_map, h1]; exact h3
set_option maxHeartbeats 1000000 in
theorem Zjw {K : Nat -> Prop} {w : World} {gb n cap : Nat} {ps : List (Value × List Int)} {cur : Array Value} (hr : Rw gb w cur 23) (hcur : cur.toList.take n = ps.map Prod.fst) (hsz : cur.size = cap) (hn : ps.length = n) (hle : n <= cap) (hg : ∀ p ∈ ps, Gd K w p) (hK : ¬ K gb) (hb : n <= 7600000000002) (h2 : n < 2) :
  Calls Tryz.prog 47 #[.slice (some ⟨gb, 0, none⟩) n cap, .func (.func 48) #[] #[]] w fun e w' => ∃ u, e = .returned u /\ (fun u w' => ∃ k, u = .slice (some ⟨gb, 0, none⟩) k cap /\ Bt K w' (some ⟨gb, 0, none⟩) k (dd (ps.map Prod.snd)) /\ Touch gb w w') u w' := by
 have hB := Bl.refl w
 refine Zal Tryz.func47 rfl 66 rfl ?_
 show CW _ _ _ _ _ _ _ [(0, .slice (some ⟨gb, 0, none⟩) n cap), (1, .func (.func 48) #[] #[])] _
 refine Zac <| Zaa <| rp 4 (.slice none 0 0) <| Zad <| Zab <| Zac <| Zac <| Zaa <| rp 8 (.slice (some ⟨gb, 0, none⟩) n cap) <| rp 9 (.int .i64 n) <| rv 10 (.bool true) (fun _ => Zaj (v := .bool (decide ((n : Int) < (2 : Int)))) (by kernel_rfl) (congrArg Value.bool (decide_eq_true (by omega)))) <| Zad ?_
 refine Zab <| Zak (fun _ => by kernel_rfl) <| Zac <| Zaa <| rp 11 (.slice (some ⟨gb, 0, none⟩) n cap) <| rp 4 (.slice (some ⟨gb, 0, none⟩) n cap) <| Zad <| Zab <| Zam <| Zah ?_
 exact Zae (.slice (some ⟨gb, 0, none⟩) n cap) (fun _ => by kernel_rfl) ⟨_, rfl, n, rfl, Znx hr hcur hn hg (Zuk _ (by simp; omega)), Touch.refl _ _⟩
set_option maxHeartbeats 4000000 in
theorem Zme {K : Nat -> Prop} {w : World} {gb n cap : Nat} {ps : List (Value × List Int)} {cur : Array Value} (hr : Rw gb w cur 23) (hcur : cur.toList.take n = ps.map Prod.fst) (hsz : cur.size = cap) (hn : ps.length = n) (hle : n <= cap) (hg : ∀ p ∈ ps, Gd K w p) (hK : ¬ K gb) (hb : n <= 7600000000002) (h2 : ¬ n < 2) :
  Calls Tryz.prog 47 #[.slice (some ⟨gb, 0, none⟩) n cap, .func (.func 48) #[] #[]] w fun e w' => ∃ u, e = .returned u /\ (fun u w' => ∃ k, u = .slice (some ⟨gb, 0, none⟩) k cap /\ Bt K w' (some ⟨gb, 0, none⟩) k (dd (ps.map Prod.snd)) /\ Touch gb w w') u w' := by
 have hB := Bl.refl w
 refine Zal Tryz.func47 rfl 66 rfl ?_
 show CW _ _ _ _ _ _ _ [(0, .slice (some ⟨gb, 0, none⟩) n cap), (1, .func (.func 48) #[] #[])] _
 refine Zac <| Zaa <| rp 4 (.slice none 0 0) <| Zad <| Zab <| Zac <| Zac <| Zaa <| rp 8 (.slice (some ⟨gb, 0, none⟩) n cap) <| rp 9 (.int .i64 n) <| rv 10 (.bool false) (fun _ => Zaj (v := .bool (decide ((n : Int) < (2 : Int)))) (by kernel_rfl) (congrArg Value.bool (decide_eq_false (by omega)))) <| Zad ?_
 refine Zab <| Zaf (fun _ => by kernel_rfl) <| Zan <| Zab <| Zac <| Zac <| Zaa <| rp 5 (.int .i64 1) <| Zad <| Zab <| Zas <| Zb1 (X := Nat) (fun m => [(5, .int .i64 ((m + 1 : Nat) : Int)), (0, .slice (some ⟨gb, 0, none⟩) n cap), (1, .func (.func 48) #[] #[])]) (fun m v => Bl w v /\ m + 1 <= n /\ dd ((ps.map Prod.snd).take (m + 1)) = (ps.map Prod.snd).take (m + 1)) (fun m => n - m) 0 (by exact ⟨fun _ => by kernel_rfl, ⟨fun _ => by kernel_rfl, ⟨fun _ => by kernel_rfl, trivial⟩⟩⟩) ⟨hB, by omega, Zzz _ (by simp; omega)⟩ ?_
 clear hB
 rintro m v ⟨hB, hm, hd⟩
 by_cases hlt : m + 1 < n
 ·skip
  obtain ⟨a1, n1, c1, x1, hp1, hc1, hs1⟩ := Zkc hcur hn hg (show m < n from by omega)
  obtain ⟨a2, n2, c2, x2, hp2, hc2, hs2⟩ := Zkc hcur hn hg hlt
  have hS : Two K K v ⟨gb, 0 + (m + 1) * 1, none⟩ ⟨gb, 0 + m * 1, none⟩ a2 a1 n2 c2 n1 c1 x2 x1 := ⟨by rw [cell_of_row _ _ _ _ _ _ (hr.go hB), show 0 + (m + 1) * 1 = m + 1 from by omega]; exact hc2, hs2.go hB, by rw [cell_of_row _ _ _ _ _ _ (hr.go hB), show 0 + m * 1 = m from by omega]; exact hc1, hs1.go hB⟩
  refine Zac <| Zac <| Zaa <| rp 12 (.int .i64 ((m + 1 : Nat) : Int)) <| rp 13 (.slice (some ⟨gb, 0, none⟩) n cap) <| rp 14 (.int .i64 n) <| rv 15 (.bool true) (fun _ => Zaj (v := .bool (decide (((m + 1 : Nat) : Int) < (n : Int)))) (by kernel_rfl) (congrArg Value.bool (decide_eq_true (by omega)))) <| Zad <| Zab <| Zak (fun _ => by kernel_rfl) <| Zan <| Zab ?_
  refine Zac <| Zas <| Zac <| Za1 (fun v => Two K K v ⟨gb, 0 + (m + 1) * 1, none⟩ ⟨gb, 0 + m * 1, none⟩ a2 a1 n2 c2 n1 c1 x2 x1) (by kernel_rfl) (hS.drew) ?_
  replace hB := hB.drew
  replace hS := hS.drew
  refine dt 0 18 (.func (.func 48) #[] #[]) (fun v hv _ => by kernel_rfl) hS <| dt 1 19 (.slice (some ⟨gb, 0, none⟩) n cap) (fun v hv _ => by kernel_rfl) hS <| dt 2 20 (.int .i64 ((m + 1 : Nat) : Int)) (fun v hv _ => by kernel_rfl) hS <| dt 3 21 (.pointer (some ⟨gb, 0 + (m + 1) * 1, none⟩)) (fun v hv _ => Za0 28 _ _ gb 0 (m + 1) n cap 1 23 rfl (by kernel_rfl) (by kernel_rfl) (by omega) Tryz.underlying28 (by kernel_rfl)) hS <| dt 4 22 (.slice a2 n2 c2) (fun v hv _ => Zai 23 _ _ _ _ rfl (by kernel_rfl) hv.cc Tryz.underlying23 rfl) hS <| dt 5 23 (.slice (some ⟨gb, 0, none⟩) n cap) (fun v hv _ => by kernel_rfl) hS <| dt 6 24 (.int .i64 ((m + 1 : Nat) : Int)) (fun v hv _ => by kernel_rfl) hS <| dt 7 25 (.int .i64 ((m : Nat) : Int)) (fun v hv _ => Zaj (v := .int .i64 (IntKind.i64.wrap (((m + 1 : Nat) : Int) - 1))) (by kernel_rfl) (congrArg (Value.int .i64) (by rw [Zbl (by omega) (by omega)]; omega))) hS <| dt 8 26 (.pointer (some ⟨gb, 0 + m * 1, none⟩)) (fun v hv _ => Za0 28 _ _ gb 0 m n cap 1 23 rfl (by kernel_rfl) (by kernel_rfl) (by omega) Tryz.underlying28 (by kernel_rfl)) hS <| dt 9 27 (.slice a1 n1 c1) (fun v hv _ => Zai 23 _ _ _ _ rfl (by kernel_rfl) hv.cc' Tryz.underlying23 rfl) hS <| Zag [10] (by kernel_rfl) (by simp) ?_
  refine Zar 10 28 48 #[.slice a2 n2 c2, .slice a1 n1 c1] rfl (fun _ => by kernel_rfl) (fun _ => by kernel_rfl) (R := fun u w' => u = .bool (decide (x2 = x1)) /\ Bl (v.drew) w') (Zdz hS.sk hS.sk') (fun u w' h => hS.go h.2) ?_ Zao
  rintro _ u1 ⟨rfl, hb2⟩
  replace hB := hB.go hb2
  replace hS := hS.go hb2
  refine Zat (by kernel_rfl) <| Zab ?_
  by_cases hpq : x2 = x1
  ·skip
   rw [show (decide (x2 = x1)) = true from by simp [hpq]]
   refine Zak (fun _ => by kernel_rfl) <| Zac ?_
   obtain ⟨l2, hl2⟩ : ∃ l2, n = m + 1 + l2 := ⟨n - (m + 1), by omega⟩
   obtain ⟨e2, he2⟩ : ∃ e2, cap = m + 1 + e2 := ⟨cap - (m + 1), by omega⟩
   have hC := CI.start (hr.go hB) (Touch.of_below hB) hcur hsz hn hg hlt hd hp1 hp2 hpq
   clear hS
   refine Zaa <| rp 29 (.slice (some ⟨gb, 0, none⟩) n cap) <| rp 30 (.int .i64 ((m + 1 : Nat) : Int)) <| rv 31 (.slice (some ⟨gb, 0 + (m + 1) * 1, none⟩) l2 e2) (fun _ => Zkr _ _ gb 0 (m + 1) n cap l2 e2 rfl (by kernel_rfl) (by kernel_rfl) hl2 he2 (by omega)) <| rp 6 (.slice (some ⟨gb, 0 + (m + 1) * 1, none⟩) l2 e2) <| Zad <| Zab <| Zac <| Zac <| Zaa <| rp 7 (.int .i64 1) <| Zad ?_
   refine Zab <| Zas <| Zb1 (X := Nat × Nat × Array Value × List (Value × List Int)) (fun z => [(7, .int .i64 ((z.1 + 1 : Nat) : Int)), (5, .int .i64 ((z.2.1 : Nat) : Int)), (6, .slice (some ⟨gb, 0 + (m + 1) * 1, none⟩) l2 e2), (0, .slice (some ⟨gb, 0, none⟩) n cap), (1, .func (.func 48) #[] #[])]) (fun z v => CI K w gb n cap m ps z.1 z.2.1 z.2.2.1 z.2.2.2 v) (fun z => n - z.1) (0, m + 1, cur, ps.take (m + 1)) (by exact ⟨fun _ => by kernel_rfl, ⟨fun _ => by kernel_rfl, ⟨fun _ => by kernel_rfl, ⟨fun _ => by kernel_rfl, ⟨fun _ => by kernel_rfl, trivial⟩⟩⟩⟩⟩) hC ?_
   clear hC hB hpq hs1 hs2 hp1 hp2 hc1 hc2
   rintro ⟨m2, q, cu, qs⟩ v hC
   simp only at hC
   show CW _ _ _ _ _ _ _ [(7, .int .i64 ((m2 + 1 : Nat) : Int)), (5, .int .i64 ((q : Nat) : Int)), (6, .slice (some ⟨gb, 0 + (m + 1) * 1, none⟩) l2 e2), (0, .slice (some ⟨gb, 0, none⟩) n cap), (1, .func (.func 48) #[] #[])] _
   have hle2 := hC.le
   have hqm := hC.qm
   have hcs := hC.sz
   by_cases hl3 : m2 + 1 < l2
   ·skip
    obtain ⟨a3, n3, c3, x3, hp3, -, hs3⟩ := Zkc hcur hn hg (show m + m2 + 1 < n from by omega)
    obtain ⟨a4, n4, c4, x4, hp4, -, hs4⟩ := Zkc hcur hn hg (show m + m2 + 1 + 1 < n from by omega)
    have hc3 : cu[m + m2 + 1]? = some (.slice a3 n3 c3) := by rw [hC.rest _ (by omega) (by omega), hp3]; rfl
    have hc4 : cu[m + m2 + 1 + 1]? = some (.slice a4 n4 c4) := by rw [hC.rest _ (by omega) (by omega), hp4]; rfl
    have hS : Two K K v ⟨gb, 0 + (m + 1) * 1 + (m2 + 1) * 1, none⟩ ⟨gb, 0 + (m + 1) * 1 + m2 * 1, none⟩ a4 a3 n4 c4 n3 c3 x4 x3 := ⟨by rw [cell_of_row _ _ _ _ _ _ hC.r, show 0 + (m + 1) * 1 + (m2 + 1) * 1 = m + m2 + 1 + 1 from by omega]; exact hc4, hs4.tou hC.t hK, by rw [cell_of_row _ _ _ _ _ _ hC.r, show 0 + (m + 1) * 1 + m2 * 1 = m + m2 + 1 from by omega]; exact hc3, hs3.tou hC.t hK⟩
    refine Zac <| Zac <| Zaa <| rp 32 (.int .i64 ((m2 + 1 : Nat) : Int)) <| rp 33 (.slice (some ⟨gb, 0 + (m + 1) * 1, none⟩) l2 e2) <| rp 34 (.int .i64 l2) <| rv 35 (.bool true) (fun _ => Zaj (v := .bool (decide (((m2 + 1 : Nat) : Int) < (l2 : Int)))) (by kernel_rfl) (congrArg Value.bool (decide_eq_true (by omega)))) <| Zad <| Zab <| Zak (fun _ => by kernel_rfl) <| Zan <| Zab ?_
    refine Zac <| Zas <| Zac <| Za1 (fun v => Two K K v ⟨gb, 0 + (m + 1) * 1 + (m2 + 1) * 1, none⟩ ⟨gb, 0 + (m + 1) * 1 + m2 * 1, none⟩ a4 a3 n4 c4 n3 c3 x4 x3) (by kernel_rfl) (hS.drew) ?_
    replace hC := hC.drew
    replace hS := hS.drew
    refine dt 0 38 (.func (.func 48) #[] #[]) (fun v hv _ => by kernel_rfl) hS <| dt 1 39 (.slice (some ⟨gb, 0 + (m + 1) * 1, none⟩) l2 e2) (fun v hv _ => by kernel_rfl) hS <| dt 2 40 (.int .i64 ((m2 + 1 : Nat) : Int)) (fun v hv _ => by kernel_rfl) hS <| dt 3 41 (.pointer (some ⟨gb, 0 + (m + 1) * 1 + (m2 + 1) * 1, none⟩)) (fun v hv _ => Za0 28 _ _ gb (0 + (m + 1) * 1) (m2 + 1) l2 e2 1 23 rfl (by kernel_rfl) (by kernel_rfl) (by omega) Tryz.underlying28 (by kernel_rfl)) hS <| dt 4 42 (.slice a4 n4 c4) (fun v hv _ => Zai 23 _ _ _ _ rfl (by kernel_rfl) hv.cc Tryz.underlying23 rfl) hS <| dt 5 43 (.slice (some ⟨gb, 0 + (m + 1) * 1, none⟩) l2 e2) (fun v hv _ => by kernel_rfl) hS <| dt 6 44 (.int .i64 ((m2 + 1 : Nat) : Int)) (fun v hv _ => by kernel_rfl) hS <| dt 7 45 (.int .i64 ((m2 : Nat) : Int)) (fun v hv _ => Zaj (v := .int .i64 (IntKind.i64.wrap (((m2 + 1 : Nat) : Int) - 1))) (by kernel_rfl) (congrArg (Value.int .i64) (by rw [Zbl (by omega) (by omega)]; omega))) hS <| dt 8 46 (.pointer (some ⟨gb, 0 + (m + 1) * 1 + m2 * 1, none⟩)) (fun v hv _ => Za0 28 _ _ gb (0 + (m + 1) * 1) m2 l2 e2 1 23 rfl (by kernel_rfl) (by kernel_rfl) (by omega) Tryz.underlying28 (by kernel_rfl)) hS <| dt 9 47 (.slice a3 n3 c3) (fun v hv _ => Zai 23 _ _ _ _ rfl (by kernel_rfl) hv.cc' Tryz.underlying23 rfl) hS <| Zag [10] (by kernel_rfl) (by simp) ?_
    refine Zar 10 48 48 #[.slice a4 n4 c4, .slice a3 n3 c3] rfl (fun _ => by kernel_rfl) (fun _ => by kernel_rfl) (R := fun u w' => u = .bool (decide (x4 = x3)) /\ Bl (v.drew) w') (Zdz hS.sk hS.sk') (fun u w' h => hS.go h.2) ?_ Zao
    rintro _ u3 ⟨rfl, hb4⟩
    replace hC := hC.go hb4
    replace hS := hS.go hb4
    refine dt 11 49 (.bool (!(decide (x4 = x3)))) (fun v hv _ => by kernel_rfl) hS <| Zat (by kernel_rfl) <| Zab ?_
    by_cases hpz : x4 = x3
    ·skip
     rw [show (!(decide (x4 = x3))) = false from by simp [hpz]]
     refine Zaf (fun _ => by kernel_rfl) <| Zan <| Za2 <| Zab <| Zaa <| rp 36 (.int .i64 ((m2 + 1 : Nat) : Int)) <| rv 37 (.int .i64 ((m2 + 1 + 1 : Nat) : Int)) (fun _ => Zaj (v := .int .i64 (IntKind.i64.wrap (((m2 + 1 : Nat) : Int) + 1))) (by kernel_rfl) (congrArg (Value.int .i64) (by rw [Zbl (by omega) (by omega)]; omega))) <| rp 7 (.int .i64 ((m2 + 1 + 1 : Nat) : Int)) <| Zad ?_
     exact Zbc (E := fun z => [(7, .int .i64 ((z.1 + 1 : Nat) : Int)), (5, .int .i64 ((z.2.1 : Nat) : Int)), (6, .slice (some ⟨gb, 0 + (m + 1) * 1, none⟩) l2 e2), (0, .slice (some ⟨gb, 0, none⟩) n cap), (1, .func (.func 48) #[] #[])]) (R := fun z v => CI K w gb n cap m ps z.1 z.2.1 z.2.2.1 z.2.2.2 v) (μ := fun z => n - z.1) (x := (m2, q, cu, qs)) (m2 + 1, q, cu, qs) (by exact ⟨fun _ => by kernel_rfl, ⟨fun _ => by kernel_rfl, ⟨fun _ => by kernel_rfl, ⟨fun _ => by kernel_rfl, ⟨fun _ => by kernel_rfl, trivial⟩⟩⟩⟩⟩) (hC.keep hp3 hp4 (by omega) hpz) (by show n - (m2 + 1) < n - m2; omega)
    ·skip
     rw [show (!(decide (x4 = x3))) = true from by simp [hpz]]
     refine Zak (fun _ => by kernel_rfl) <| Zac <| Zaa <| rp 50 (.slice (some ⟨gb, 0, none⟩) n cap) <| rp 51 (.int .i64 ((q : Nat) : Int)) <| rp 52 (.slice (some ⟨gb, 0 + (m + 1) * 1, none⟩) l2 e2) <| rp 53 (.int .i64 ((m2 + 1 : Nat) : Int)) <| rv 54 (.pointer (some ⟨gb, 0 + (m + 1) * 1 + (m2 + 1) * 1, none⟩)) (fun _ => Za0 28 _ _ gb (0 + (m + 1) * 1) (m2 + 1) l2 e2 1 23 rfl (by kernel_rfl) (by kernel_rfl) (by omega) Tryz.underlying28 (by kernel_rfl)) <| rv 55 (.slice a4 n4 c4) (fun _ => Zai 23 _ _ _ _ rfl (by kernel_rfl) hS.cc Tryz.underlying23 rfl) <| rv 56 (.pointer (some ⟨gb, 0 + q * 1, none⟩)) (fun _ => Za0 28 _ _ gb 0 q n cap 1 23 rfl (by kernel_rfl) (by kernel_rfl) (by omega) Tryz.underlying28 (by kernel_rfl)) <| Zlt gb (0 + q * 1) (.slice a4 n4 c4) (fun _ => by kernel_rfl) (fun _ => Zck 23 _ _ gb (0 + q * 1) _ _ _ hC.r rfl (by kernel_rfl) (by kernel_rfl) (by omega) rfl rfl (by kernel_rfl)) ?_
     intro w5 hset
     replace hset : Set1 u3 w5 gb q (.slice a4 n4 c4) := by rw [show 0 + q * 1 = q from by omega] at hset; exact hset
     replace hC := hC.move hp3 hp4 (by omega) (by omega) hpz ⟨_, _, _, rfl, hs4⟩ hset rfl
     clear hS
     refine Zad <| Zab <| Zaa <| rp 57 (.int .i64 ((q : Nat) : Int)) <| rv 58 (.int .i64 ((q + 1 : Nat) : Int)) (fun _ => Zaj (v := .int .i64 (IntKind.i64.wrap (((q : Nat) : Int) + 1))) (by kernel_rfl) (congrArg (Value.int .i64) (by rw [Zbl (by omega) (by omega)]; omega))) <| rp 5 (.int .i64 ((q + 1 : Nat) : Int)) <| Zad <| Za2 <| Zab <| Zaa <| rp 36 (.int .i64 ((m2 + 1 : Nat) : Int)) <| rv 37 (.int .i64 ((m2 + 1 + 1 : Nat) : Int)) (fun _ => Zaj (v := .int .i64 (IntKind.i64.wrap (((m2 + 1 : Nat) : Int) + 1))) (by kernel_rfl) (congrArg (Value.int .i64) (by rw [Zbl (by omega) (by omega)]; omega))) ?_
     refine rp 7 (.int .i64 ((m2 + 1 + 1 : Nat) : Int)) <| Zad ?_
     exact Zbc (E := fun z => [(7, .int .i64 ((z.1 + 1 : Nat) : Int)), (5, .int .i64 ((z.2.1 : Nat) : Int)), (6, .slice (some ⟨gb, 0 + (m + 1) * 1, none⟩) l2 e2), (0, .slice (some ⟨gb, 0, none⟩) n cap), (1, .func (.func 48) #[] #[])]) (R := fun z v => CI K w gb n cap m ps z.1 z.2.1 z.2.2.1 z.2.2.2 v) (μ := fun z => n - z.1) (x := (m2, q, cu, qs)) (m2 + 1, q + 1, cu.setIfInBounds q (.slice a4 n4 c4), qs ++ [(.slice a4 n4 c4, x4)]) (by exact ⟨fun _ => by kernel_rfl, ⟨fun _ => by kernel_rfl, ⟨fun _ => by kernel_rfl, ⟨fun _ => by kernel_rfl, ⟨fun _ => by kernel_rfl, trivial⟩⟩⟩⟩⟩) hC (by show n - (m2 + 1) < n - m2; omega)
   have hfin : m + 1 + (m2 + 1) = n := by omega
   refine Zac <| Zac <| Zaa <| rp 32 (.int .i64 ((m2 + 1 : Nat) : Int)) <| rp 33 (.slice (some ⟨gb, 0 + (m + 1) * 1, none⟩) l2 e2) <| rp 34 (.int .i64 l2) <| rv 35 (.bool false) (fun _ => Zaj (v := .bool (decide (((m2 + 1 : Nat) : Int) < (l2 : Int)))) (by kernel_rfl) (congrArg Value.bool (decide_eq_false (by omega)))) <| Zad <| Zab <| Zaf (fun _ => by kernel_rfl) <| Zbs <| Zaq ?_
   refine Zaq <| Za4 <| Zab <| Zac ?_
   obtain ⟨l3, hl4⟩ : ∃ l3, n = q + l3 := ⟨n - q, by omega⟩
   obtain ⟨e3, he3⟩ : ∃ e3, cap = q + e3 := ⟨cap - q, by omega⟩
   refine Zaa <| rp 59 (.slice (some ⟨gb, 0, none⟩) n cap) <| rp 60 (.int .i64 ((q : Nat) : Int)) <| rv 61 (.slice (some ⟨gb, 0 + q * 1, none⟩) l3 e3) (fun _ => Zkr _ _ gb 0 q n cap l3 e3 rfl (by kernel_rfl) (by kernel_rfl) hl4 he3 (by omega)) ?_
   have hF := hC.done hn hfin hK (List.replicate l3 (.slice none 0 0))
   refine rw_n (.tuple #[]) (w' := World.setCells v gb (0 + q * 1) (List.replicate l3 (.slice none 0 0))) (fun _ => by kernel_rfl) (fun _ => Ztv _ gb (0 + q * 1) l3 e3 _ rfl (by kernel_rfl) hC.r (by omega) (by omega)) ?_
   generalize World.setCells v gb (0 + q * 1) (List.replicate l3 (.slice none 0 0)) = wF at hF ⊢
   refine Zad <| Zab <| Zac <| Zaa <| rp 62 (.slice (some ⟨gb, 0, none⟩) n cap) <| rp 63 (.int .i64 ((q : Nat) : Int)) <| rv 64 (.slice (some ⟨gb, 0, none⟩) q cap) (fun _ => Zw1 _ _ gb 0 q n cap rfl (by kernel_rfl) (by kernel_rfl) (by omega) (by omega)) <| rp 4 (.slice (some ⟨gb, 0, none⟩) q cap) <| Zad <| Zab <| Zam <| Zau ?_
   refine Zah <| Zah <| Zau <| Zah ?_
   exact Zae (.slice (some ⟨gb, 0, none⟩) q cap) (fun _ => by kernel_rfl) ⟨_, rfl, q, rfl, hF.1, hF.2⟩
  ·skip
   rw [show (decide (x2 = x1)) = false from by simp [hpq]]
   refine Zaf (fun _ => by kernel_rfl) <| Zan <| Za2 <| Zab <| Zaa <| rp 16 (.int .i64 ((m + 1 : Nat) : Int)) <| rv 17 (.int .i64 ((m + 1 + 1 : Nat) : Int)) (fun _ => Zaj (v := .int .i64 (IntKind.i64.wrap (((m + 1 : Nat) : Int) + 1))) (by kernel_rfl) (congrArg (Value.int .i64) (by rw [Zbl (by omega) (by omega)]; omega))) <| rp 5 (.int .i64 ((m + 1 + 1 : Nat) : Int)) <| Zad ?_
   exact Zbc (E := fun m => [(5, .int .i64 ((m + 1 : Nat) : Int)), (0, .slice (some ⟨gb, 0, none⟩) n cap), (1, .func (.func 48) #[] #[])]) (R := fun m v => Bl w v /\ m + 1 <= n /\ dd ((ps.map Prod.snd).take (m + 1)) = (ps.map Prod.snd).take (m + 1)) (μ := fun m => n - m) (x := m) (m + 1) (by exact ⟨fun _ => by kernel_rfl, ⟨fun _ => by kernel_rfl, ⟨fun _ => by kernel_rfl, trivial⟩⟩⟩) ⟨hB, by omega, dd_go hp1 hp2 hd hpq⟩ (by show n - (m + 1) < n - m; omega)
 obtain rfl : m + 1 = n := by omega
 refine Zac <| Zac <| Zaa <| rp 12 (.int .i64 ((m + 1 : Nat) : Int)) <| rp 13 (.slice (some ⟨gb, 0, none⟩) (m + 1) cap) <| rp 14 (.int .i64 (m + 1)) <| rv 15 (.bool false) (fun _ => Zaj (v := .bool (decide (((m + 1 : Nat) : Int) < (m + 1 : Int)))) (by kernel_rfl) (congrArg Value.bool (decide_eq_false (by omega)))) <| Zad <| Zab <| Zaf (fun _ => by kernel_rfl) <| Zbs <| Zaq ?_
 refine Zaq <| Za4 <| Zab <| Zac <| Zaa <| rp 65 (.slice (some ⟨gb, 0, none⟩) (m + 1) cap) <| rp 4 (.slice (some ⟨gb, 0, none⟩) (m + 1) cap) <| Zad <| Zab <| Zam ?_
 exact Zae (.slice (some ⟨gb, 0, none⟩) (m + 1) cap) (fun _ => by kernel_rfl) ⟨_, rfl, m + 1, rfl, (Znx hr hcur hn hg (by rw [<- hn, <- List.length_map (f := Prod.snd), List.take_length] at hd; exact hd)).go hB, Touch.of_below hB⟩
theorem Zmf {K : Nat -> Prop} {w : World} {gb n cap : Nat} {ps : List (Value × List Int)} {cur : Array Value} (hr : Rw gb w cur 23) (hcur : cur.toList.take n = ps.map Prod.fst) (hsz : cur.size = cap) (hn : ps.length = n) (hle : n <= cap) (hg : ∀ p ∈ ps, Gd K w p) (hK : ¬ K gb) (hb : n <= 7600000000002) :
  Calls Tryz.prog 47 #[.slice (some ⟨gb, 0, none⟩) n cap, .func (.func 48) #[] #[]] w fun e w' => ∃ u, e = .returned u /\ (fun u w' => ∃ k, u = .slice (some ⟨gb, 0, none⟩) k cap /\ Bt K w' (some ⟨gb, 0, none⟩) k (dd (ps.map Prod.snd)) /\ Touch gb w w') u w' := by
 by_cases h2 : n < 2
 ·exact Zjw hr hcur hsz hn hle hg hK hb h2
 ·exact Zme hr hcur hsz hn hle hg hK hb h2
end Go.Proofs.YtefhepcplempkaaGreat

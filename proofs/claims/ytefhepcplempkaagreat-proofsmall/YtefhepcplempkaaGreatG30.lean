/- A row of byte strings turned round. -/
import Derived.Test.YtefhepcplempkaaGreatG29
import Derived.Test.YtefhepcplempkaaGreatG00
import Derived.Test.YtefhepcplempkaaGreatG19
import Derived.Test.YtefhepcplempkaaGreatG17
import Derived.Lib.SliceRun
set_option linter.unusedVariables false
set_option maxRecDepth 100000
namespace Go.Proofs.YtefhepcplempkaaGreat
open Go.RowKit
open Tr
def rvn (n i p : Nat) : Nat := if p < i \/ n - i <= p then n - 1 - p else p
structure RvI (w : World) (g n cap : Nat) (us : List Value) (i : Nat) (v : World) : Prop where
 row : ∃ cur : Array Value, v.heap[g]? = some (.cells cur 23 (0, 0)) /\ cur.size = cap /\ ∀ p, p < n -> cur[p]? = us[rvn n i p]?
 ot : ∀ k, k ≠ g -> v.heap[k]? = w.heap[k]?
 os : v.os = w.os
 tape : v.tape = w.tape
 output : v.output = w.output
 size : v.heap.size = w.heap.size
theorem RvI.drew {w : World} {g n cap : Nat} {us : List Value} {i : Nat} {v : World} (h : RvI w g n cap us i v) (ht : v.drew.tape = w.tape) : RvI w g n cap us i v.drew := ⟨h.row, h.ot, h.os, ht, h.output, h.size⟩
theorem Zp7 {w v w1 w2 : World} {g n cap i : Nat} {us : List Value} {cur : Array Value} {ui uj : Value} (hI : RvI w g n cap us i v) (hij : 2 * i + 1 < n) (hrow : v.heap[g]? = some (.cells cur 23 (0, 0))) (hcs : cur.size = cap) (hcu : ∀ p, p < n -> cur[p]? = us[rvn n i p]?) (hui : us[i]? = some ui) (huj : us[n - 1 - i]? = some uj) (hnc : n <= cap) (hrow2 : Rw g w2 ((cur.setIfInBounds (0 + i * 1) uj).setIfInBounds (0 + (n - 1 - i) * 1) ui) 23) {o1 o2 : Nat} (hs1 : Set1 v w1 g o1 uj) (hs2 : Set1 w1 w2 g o2 ui) : RvI w g n cap us (i + 1) w2 := by
 rw [Nat.zero_add, Nat.mul_one, Nat.zero_add, Nat.mul_one] at hrow2
 refine ⟨⟨_, hrow2, by simp [hcs], fun p hp => ?_⟩, fun k hk => (hs2.other hk).trans ((hs1.other hk).trans (hI.ot k hk)), hs2.touch.os.trans (hs1.touch.os.trans hI.os), hs2.touch.tape.trans (hs1.touch.tape.trans hI.tape), hs2.touch.output.trans (hs1.touch.output.trans hI.output), hs2.size.trans (hs1.size.trans hI.size)⟩
 have hcp : ∀ q, q < n -> q < cur.size := fun q hq => by omega
 rw [Array.getElem?_setIfInBounds, Array.size_setIfInBounds]
 by_cases h1 : n - 1 - i = p
 ·rw [if_pos h1, if_pos (hcp _ (by omega)), show rvn n (i + 1) p = i from by unfold rvn; rw [if_pos (by omega)]; omega]
  exact hui.symm
 ·rw [if_neg h1, Array.getElem?_setIfInBounds]
  by_cases h2 : i = p
  ·rw [if_pos h2, if_pos (hcp _ (by omega)), show rvn n (i + 1) p = n - 1 - i from by unfold rvn; rw [if_pos (by omega)]; omega]
   exact huj.symm
  ·rw [if_neg h2, hcu p hp]
   congr 1
   unfold rvn
   by_cases h3 : p < i \/ n - i <= p
   ·rw [if_pos h3, if_pos (by omega)]
   ·rw [if_neg h3, if_neg (by omega)]
set_option maxHeartbeats 4000000 in
theorem Zw9 {w : World} {g n c cap : Nat} {us : List Value} (hul : us.length = n) (hus : ∀ u ∈ us, ∃ a m d, u = .slice a m d) (hnb : n <= 8800000000000) (hnc : n <= cap) (hI : RvI w g n cap us 0 w) :
  Calls Tryz.prog 30 #[.slice (some ⟨g, 0, none⟩) n c] w fun e w' => ∃ u, e = .returned u /\ (fun _ w' => ∃ i, RvI w g n cap us i w' /\ n <= 2 * i + 1) u w' := by
 refine Zaj Tryz.func30 rfl 28 rfl ?_
 show CW _ _ _ _ _ _ _ [(0, .slice (some ⟨g, 0, none⟩) n c)] _
 refine Zac <| Zaa <| rp 4 (.slice (some ⟨g, 0, none⟩) n c) <| rp 5 (.int .i64 n) <| rv 6 (.int .i64 ((n : Int) - 1 - ((0 : Nat) : Int))) (fun _ => Zag (v := .int .i64 (IntKind.i64.wrap ((n : Int) - 1))) (by kernel_rfl) (congrArg (Value.int .i64) (by rw [Zbc (by omega) (by omega)]; omega))) <| rp 2 (.int .i64 ((0 : Nat) : Int)) <| rp 3 (.int .i64 ((n : Int) - 1 - ((0 : Nat) : Int))) <| Zad <| Zab <| Zar <| Zby (X := Nat) (fun i => [(2, .int .i64 ((i : Nat) : Int)), (3, .int .i64 ((n : Int) - 1 - ((i : Nat) : Int))), (0, .slice (some ⟨g, 0, none⟩) n c)]) (fun i v => RvI w g n cap us i v /\ 2 * i <= n + 1) (fun i => n - i) 0 (by exact ⟨fun _ => by kernel_rfl, ⟨fun _ => by kernel_rfl, ⟨fun _ => by kernel_rfl, trivial⟩⟩⟩) ⟨hI, by omega⟩ ?_
 clear hI
 rintro i v ⟨hI, hi⟩
 show CW _ _ _ _ _ _ _ [(2, .int .i64 ((i : Nat) : Int)), (3, .int .i64 ((n : Int) - 1 - ((i : Nat) : Int))), (0, .slice (some ⟨g, 0, none⟩) n c)] _
 by_cases hij : 2 * i + 1 < n
 ·skip
  obtain ⟨cur, hrow, hcs, hcu⟩ := hI.row
  obtain ⟨ui, hui⟩ : ∃ u, us[i]? = some u := ⟨_, List.getElem?_eq_getElem (by omega)⟩
  obtain ⟨uj, huj⟩ : ∃ u, us[n - 1 - i]? = some u := ⟨_, List.getElem?_eq_getElem (by omega)⟩
  have hci : cur[i]? = some ui := by rw [hcu i (by omega), <- hui]; unfold rvn; rw [if_neg (by omega)]
  have hcj : cur[n - 1 - i]? = some uj := by rw [hcu _ (by omega), <- huj]; unfold rvn; rw [if_neg (by omega)]
  obtain ⟨ai, ni, ci, rfl⟩ := hus ui (List.mem_of_getElem? hui)
  obtain ⟨aj, nj, cj, rfl⟩ := hus uj (List.mem_of_getElem? huj)
  refine Zac <| Zac <| Zaa <| rp 7 (.int .i64 ((i : Nat) : Int)) <| rp 8 (.int .i64 ((n : Int) - 1 - ((i : Nat) : Int))) <| rv 9 (.bool true) (fun _ => Zag (v := .bool (decide (((i : Nat) : Int) < ((n : Int) - 1 - ((i : Nat) : Int) : Int)))) (by kernel_rfl) (congrArg Value.bool (decide_eq_true (by omega)))) <| Zad <| Zab <| Zak (fun _ => by kernel_rfl) <| Zan <| Zab <| Zac ?_
  refine Zar <| Zaz (fun v => True) (by kernel_rfl) (trivial) ?_
  replace hrow : v.drew.heap[g]? = some (.cells cur 23 (0, 0)) := hrow
  replace hI := hI.drew hI.tape
  refine dt 0 14 (.slice (some ⟨g, 0, none⟩) n c) (fun v hv _ => by kernel_rfl) trivial <| dt 1 15 (.int .i64 ((i : Nat) : Int)) (fun v hv _ => by kernel_rfl) trivial <| dt 2 16 (.slice (some ⟨g, 0, none⟩) n c) (fun v hv _ => by kernel_rfl) trivial <| dt 3 17 (.int .i64 ((n : Int) - 1 - ((i : Nat) : Int))) (fun v hv _ => by kernel_rfl) trivial <| dt 4 18 (.slice (some ⟨g, 0, none⟩) n c) (fun v hv _ => by kernel_rfl) trivial <| dt 5 19 (.int .i64 ((n : Int) - 1 - ((i : Nat) : Int))) (fun v hv _ => by kernel_rfl) trivial <| dt 6 20 (.pointer (some ⟨g, 0 + (n - 1 - i) * 1, none⟩)) (fun v hv _ => Zcj (kd := .i64) (i := (n : Int) - 1 - ((i : Nat) : Int)) 28 _ _ g 0 (n - 1 - i) n c 1 23 rfl (by kernel_rfl) (by kernel_rfl) (by omega) (by omega) Tryz.underlying28 (by kernel_rfl)) trivial <| dt 8 22 (.slice (some ⟨g, 0, none⟩) n c) (fun v hv _ => by kernel_rfl) trivial <| dt 9 23 (.int .i64 ((i : Nat) : Int)) (fun v hv _ => by kernel_rfl) trivial <| dt 10 24 (.pointer (some ⟨g, 0 + i * 1, none⟩)) (fun v hv _ => Zau 28 _ _ g 0 i n c 1 23 rfl (by kernel_rfl) (by kernel_rfl) (by omega) Tryz.underlying28 (by kernel_rfl)) trivial <| Zaf [7, 11] (by kernel_rfl) (by simp) ?_
  refine ar_v 7 21 (.slice aj nj cj) rfl (fun _ => by kernel_rfl) (fun _ => Zah 23 _ ⟨g, 0 + (n - 1 - i) * 1, none⟩ _ _ rfl (by kernel_rfl) (by rw [cell_of_row _ _ _ _ _ _ hrow, Nat.zero_add, Nat.mul_one]; exact hcj) Tryz.underlying23 rfl) trivial ?_ ?_
  ·skip
   refine Zaf [11] (by kernel_rfl) (by simp) ?_
   refine ar_v 11 25 (.slice ai ni ci) rfl (fun _ => by kernel_rfl) (fun _ => Zah 23 _ ⟨g, 0 + i * 1, none⟩ _ _ rfl (by kernel_rfl) (by rw [cell_of_row _ _ _ _ _ _ hrow, Nat.zero_add, Nat.mul_one]; exact hci) Tryz.underlying23 rfl) trivial ?_ Zam
   refine dt 12 26 (.pointer (some ⟨g, 0 + i * 1, none⟩)) (fun v hv _ => Zau 28 _ _ g 0 i n c 1 23 rfl (by kernel_rfl) (by kernel_rfl) (by omega) Tryz.underlying28 (by kernel_rfl)) trivial <| Zaf [13] (by kernel_rfl) (by simp) ?_
   refine Zb5 13 g (0 + i * 1) (.slice aj nj cj) rfl (fun _ => by kernel_rfl) (fun _ => Zbo 23 _ _ g (0 + i * 1) _ 23 _ hrow rfl (by kernel_rfl) (by kernel_rfl) (by simp; omega) rfl rfl (by kernel_rfl)) (fun _ _ => trivial) ?_ Zam
   intro w1 hs1
   have hrow1 : Rw g w1 (cur.setIfInBounds (0 + i * 1) (.slice aj nj cj)) 23 := Rw.set hrow hs1 rfl
   refine dt 14 27 (.pointer (some ⟨g, 0 + (n - 1 - i) * 1, none⟩)) (fun v hv _ => Zcj (kd := .i64) (i := (n : Int) - 1 - ((i : Nat) : Int)) 28 _ _ g 0 (n - 1 - i) n c 1 23 rfl (by kernel_rfl) (by kernel_rfl) (by omega) (by omega) Tryz.underlying28 (by kernel_rfl)) trivial <| Zaf [15] (by kernel_rfl) (by simp) ?_
   refine Zb5 15 g (0 + (n - 1 - i) * 1) (.slice ai ni ci) rfl (fun _ => by kernel_rfl) (fun _ => Zbo 23 _ _ g (0 + (n - 1 - i) * 1) _ 23 _ hrow1 rfl (by kernel_rfl) (by kernel_rfl) (by simp; omega) rfl rfl (by kernel_rfl)) (fun _ _ => trivial) ?_ Zam
   intro w2 hs2
   have hrow2 : Rw g w2 ((cur.setIfInBounds (0 + i * 1) (.slice aj nj cj)).setIfInBounds (0 + (n - 1 - i) * 1) (.slice ai ni ci)) 23 := Rw.set hrow1 hs2 rfl
   have hI2 : RvI w g n cap us (i + 1) w2 := Zp7 hI hij hrow hcs hcu hui huj hnc hrow2 hs1 hs2
   refine Zas (by kernel_rfl) <| Za0 <| Zab <| Zaa <| rp 10 (.int .i64 ((i : Nat) : Int)) <| rv 11 (.int .i64 ((i + 1 : Nat) : Int)) (fun _ => Zag (v := .int .i64 (IntKind.i64.wrap (((i : Nat) : Int) + 1))) (by kernel_rfl) (congrArg (Value.int .i64) (by rw [Zbc (by omega) (by omega)]; rfl))) <| rp 12 (.int .i64 ((n : Int) - 1 - ((i : Nat) : Int))) <| rv 13 (.int .i64 ((n : Int) - 1 - ((i + 1 : Nat) : Int))) (fun _ => Zag (v := .int .i64 (IntKind.i64.wrap ((n : Int) - 1 - ((i : Nat) : Int) - 1))) (by kernel_rfl) (congrArg (Value.int .i64) (by rw [Zbc (by omega) (by omega)]; omega))) <| rp 2 (.int .i64 ((i + 1 : Nat) : Int)) <| rp 3 (.int .i64 ((n : Int) - 1 - ((i + 1 : Nat) : Int))) <| Zad ?_
   exact Za8 (E := fun i => [(2, .int .i64 ((i : Nat) : Int)), (3, .int .i64 ((n : Int) - 1 - ((i : Nat) : Int))), (0, .slice (some ⟨g, 0, none⟩) n c)]) (R := fun i v => RvI w g n cap us i v /\ 2 * i <= n + 1) (μ := fun i => n - i) (x := i) (i + 1) (by exact ⟨fun _ => by kernel_rfl, ⟨fun _ => by kernel_rfl, ⟨fun _ => by kernel_rfl, trivial⟩⟩⟩) ⟨hI2, by omega⟩ (by show n - (i + 1) < n - i; omega)
  refine ar_v 11 25 (.slice ai ni ci) rfl (fun _ => by kernel_rfl) (fun _ => Zah 23 _ ⟨g, 0 + i * 1, none⟩ _ _ rfl (by kernel_rfl) (by rw [cell_of_row _ _ _ _ _ _ hrow, Nat.zero_add, Nat.mul_one]; exact hci) Tryz.underlying23 rfl) trivial ?_ Zam
  refine Zaf [7] (by kernel_rfl) (by simp) ?_
  refine ar_v 7 21 (.slice aj nj cj) rfl (fun _ => by kernel_rfl) (fun _ => Zah 23 _ ⟨g, 0 + (n - 1 - i) * 1, none⟩ _ _ rfl (by kernel_rfl) (by rw [cell_of_row _ _ _ _ _ _ hrow, Nat.zero_add, Nat.mul_one]; exact hcj) Tryz.underlying23 rfl) trivial ?_ Zam
  refine dt 12 26 (.pointer (some ⟨g, 0 + i * 1, none⟩)) (fun v hv _ => Zau 28 _ _ g 0 i n c 1 23 rfl (by kernel_rfl) (by kernel_rfl) (by omega) Tryz.underlying28 (by kernel_rfl)) trivial <| Zaf [13] (by kernel_rfl) (by simp) ?_
  refine Zb5 13 g (0 + i * 1) (.slice aj nj cj) rfl (fun _ => by kernel_rfl) (fun _ => Zbo 23 _ _ g (0 + i * 1) _ 23 _ hrow rfl (by kernel_rfl) (by kernel_rfl) (by simp; omega) rfl rfl (by kernel_rfl)) (fun _ _ => trivial) ?_ Zam
  intro w1 hs1
  have hrow1 : Rw g w1 (cur.setIfInBounds (0 + i * 1) (.slice aj nj cj)) 23 := Rw.set hrow hs1 rfl
  refine dt 14 27 (.pointer (some ⟨g, 0 + (n - 1 - i) * 1, none⟩)) (fun v hv _ => Zcj (kd := .i64) (i := (n : Int) - 1 - ((i : Nat) : Int)) 28 _ _ g 0 (n - 1 - i) n c 1 23 rfl (by kernel_rfl) (by kernel_rfl) (by omega) (by omega) Tryz.underlying28 (by kernel_rfl)) trivial <| Zaf [15] (by kernel_rfl) (by simp) ?_
  refine Zb5 15 g (0 + (n - 1 - i) * 1) (.slice ai ni ci) rfl (fun _ => by kernel_rfl) (fun _ => Zbo 23 _ _ g (0 + (n - 1 - i) * 1) _ 23 _ hrow1 rfl (by kernel_rfl) (by kernel_rfl) (by simp; omega) rfl rfl (by kernel_rfl)) (fun _ _ => trivial) ?_ Zam
  intro w2 hs2
  have hrow2 : Rw g w2 ((cur.setIfInBounds (0 + i * 1) (.slice aj nj cj)).setIfInBounds (0 + (n - 1 - i) * 1) (.slice ai ni ci)) 23 := Rw.set hrow1 hs2 rfl
  have hI2 : RvI w g n cap us (i + 1) w2 := Zp7 hI hij hrow hcs hcu hui huj hnc hrow2 hs1 hs2
  refine Zas (by kernel_rfl) <| Za0 <| Zab <| Zaa <| rp 10 (.int .i64 ((i : Nat) : Int)) <| rv 11 (.int .i64 ((i + 1 : Nat) : Int)) (fun _ => Zag (v := .int .i64 (IntKind.i64.wrap (((i : Nat) : Int) + 1))) (by kernel_rfl) (congrArg (Value.int .i64) (by rw [Zbc (by omega) (by omega)]; rfl))) <| rp 12 (.int .i64 ((n : Int) - 1 - ((i : Nat) : Int))) <| rv 13 (.int .i64 ((n : Int) - 1 - ((i + 1 : Nat) : Int))) (fun _ => Zag (v := .int .i64 (IntKind.i64.wrap ((n : Int) - 1 - ((i : Nat) : Int) - 1))) (by kernel_rfl) (congrArg (Value.int .i64) (by rw [Zbc (by omega) (by omega)]; omega))) <| rp 2 (.int .i64 ((i + 1 : Nat) : Int)) <| rp 3 (.int .i64 ((n : Int) - 1 - ((i + 1 : Nat) : Int))) <| Zad ?_
  exact Za8 (E := fun i => [(2, .int .i64 ((i : Nat) : Int)), (3, .int .i64 ((n : Int) - 1 - ((i : Nat) : Int))), (0, .slice (some ⟨g, 0, none⟩) n c)]) (R := fun i v => RvI w g n cap us i v /\ 2 * i <= n + 1) (μ := fun i => n - i) (x := i) (i + 1) (by exact ⟨fun _ => by kernel_rfl, ⟨fun _ => by kernel_rfl, ⟨fun _ => by kernel_rfl, trivial⟩⟩⟩) ⟨hI2, by omega⟩ (by show n - (i + 1) < n - i; omega)
 refine Zac <| Zac <| Zaa <| rp 7 (.int .i64 ((i : Nat) : Int)) <| rp 8 (.int .i64 ((n : Int) - 1 - ((i : Nat) : Int))) <| rv 9 (.bool false) (fun _ => Zag (v := .bool (decide (((i : Nat) : Int) < ((n : Int) - 1 - ((i : Nat) : Int) : Int)))) (by kernel_rfl) (congrArg Value.bool (decide_eq_false (by omega)))) <| Zad <| Zab <| Zai (fun _ => by kernel_rfl) <| Zbl <| Zal <| Zal ?_
 refine Zay ?_
 exact Zee (.tuple #[]) (fun _ => by kernel_rfl) ⟨_, rfl, i, hI, by omega⟩
theorem Zzk {n i p : Nat} (h : n <= 2 * i + 1) (hp : p < n) : rvn n i p = n - 1 - p := by
 unfold rvn
 split
 ·rfl
 ·omega
theorem Zxa {w : World} {base : Nat} {v : Value} {M : List (List Int)} (h : OwnS w base v M) (hne : M ≠ []) (hnb : M.length <= 8800000000000) :
  Calls Tryz.prog 30 #[v] w fun e w' => ∃ u, e = .returned u /\ OwnS w' base v M.reverse /\ Below base w w' := by
 obtain ⟨us, h1, ⟨h2, h3⟩, h4⟩ := h
 have hn0 := List.length_pos_iff.2 hne
 rcases h3 with ⟨_, h5⟩ | ⟨g, cap, cur, rfl, hbg, hg, hc1, hc2, hc3, hc4⟩
 ·omega
 ·rw [Nat.mul_one] at hc3 hc4
  have hsl : ∀ u ∈ us, ∃ a m d, u = .slice a m d := fun u hu => by
   obtain ⟨j, hj, rfl⟩ := List.getElem_of_mem hu
   obtain ⟨a, n, c, e, _⟩ := h4 j us[j] (M[j]'(by omega)) (List.getElem?_eq_getElem hj) (List.getElem?_eq_getElem (by omega))
   exact ⟨a, n, c, e⟩
  have hI : RvI w g M.length cap us 0 w := ⟨⟨cur, hg, hc3, fun p hp => by
   rw [show rvn M.length 0 p = p from by unfold rvn; rw [if_neg (by omega)], <- hc4, List.getElem?_take_of_lt hp, Array.getElem?_toList]⟩, fun _ _ => rfl, rfl, rfl, rfl, rfl⟩
  refine (Zw9 (c := cap) h1 hsl hnb hc1 hI).mono fun e w' ⟨u, e1, i, hR, hi⟩ => ⟨u, e1, ?_, ?_⟩
  ·obtain ⟨cur', r1, r2, r3⟩ := hR.row
   have ht : cur'.toList.take M.length = us.reverse := by
    refine List.ext_getElem? fun p => ?_
    by_cases hp : p < M.length
    ·rw [List.getElem?_take_of_lt hp, Array.getElem?_toList, r3 p hp, Zzk hi hp, List.getElem?_reverse (by omega), h1]
    ·rw [List.getElem?_eq_none (by rw [List.length_take]; omega), List.getElem?_eq_none (by rw [List.length_reverse]; omega)]
   refine ⟨us.reverse, by simp [h1], ⟨by rw [List.length_reverse, List.length_reverse]; exact h2, .inr ⟨g, cap, cur', by rw [List.length_reverse], hbg, r1, by rw [List.length_reverse]; exact hc1, hc2, by rw [Nat.mul_one]; exact r2, by rw [List.length_reverse, Nat.mul_one]; exact ht⟩⟩, fun j u b q1 q2 => ?_⟩
   have hj : j < M.length := by have := (List.getElem?_eq_some_iff.1 q2).1; rw [List.length_reverse] at this; exact this
   rw [List.getElem?_reverse (by omega)] at q1 q2
   rw [h1] at q1
   obtain ⟨a, n, c, e3, e4⟩ := h4 _ u b q1 q2
   exact ⟨a, n, c, e3, e4.keep (fun k hk hl => ⟨hR.ot k (fun e => hk (by rw [e]; rfl)), by simpa using hk⟩)⟩
  ·exact ⟨hR.os, hR.tape, hR.output, by rw [hR.size]; exact Nat.le_refl _, fun k hk => hR.ot k (by omega)⟩
theorem Wp.own {w : World} {gW base : Nat} {PV vN : Value} {X : Nat -> Prop} {ns : List (List Int)} (h : Wp w gW PV base vN X ns) : OwnS w base vN ns := by
 obtain ⟨vals, h1, h2, h3⟩ := h.o
 refine ⟨vals, h2, h1, fun j u b q1 q2 => ?_⟩
 obtain ⟨a, n, c, e1, e2⟩ := h3 j u q1
 rw [show ns.getD j [] = b from by simp [List.getD, q2]] at e2
 exact ⟨a, n, c, e1, e2.mono (fun b hb => hb.2.1)⟩
theorem Wp.start {w : World} {gW : Nat} {PV : Value} {X : Nat -> Prop} (h : Rw gW w #[PV, .slice none 0 0] 59) : Wp w gW PV gW (.slice none 0 0) X [] := ⟨h, ⟨[], World.ownsRow_nil w gW _ 1, rfl, fun j v hj => by simp at hj⟩, Nat.le_refl _⟩
theorem Zt8 (t : Tr) : entN [] t = entsR t := by simp [entN]
def prvP (t : Tr) (k : List Int) : List (List Int) := if t.isNo then [] else (wyN (Ni.nib k) t [] ++ [encT t]).reverse
theorem Wg.bl {w u v : World} {gW : Nat} {vN vN' : Value} (h : Wg u v gW vN vN') (hb : Bl w u) (hg : w.heap.size <= gW) (ho : ∀ k, vN.ownBlock = some k -> w.heap.size <= k) : Bl w v := ⟨h.os.trans (Below.os hb), h.tape.trans (Below.tape hb), h.output.trans (Below.output hb), Nat.le_trans (Below.size hb) h.size, fun k hk => (h.block k (Nat.lt_of_lt_of_le hk (Below.size hb)) (by omega) (fun e => by have := ho k e; omega)).trans (Below.block hb k hk)⟩
theorem Rel.entN {t : Tr} {l : PList} (h : Rel t l) : (entsF [] t).map nbE = entN [] t := by rw [Zt8, <- h.ones, h.ents]; rfl
theorem Rel.paths {t : Tr} {l : PList} (h : Rel t l) : ∀ e ∈ Go.Proofs.YtefhepcplempkaaGreat.entN [] t, e.1.length <= 64 := fun e he => by
 rw [<- h.entN, h.ents] at he
 obtain ⟨f, hf, rfl⟩ := List.mem_map.1 he
 have := ((h.m f.1 f.2).1 hf).2.1
 show (Ni.nib f.1).length <= 64
 rw [Ni.nib_len]; omega
set_option maxHeartbeats 4000000 in
theorem Zoi {K K1 : Nat -> Prop} {w : World} {g : Nat} {t : Tr} {L : PList} (hT : Tri K w g t) (hRel : Rel t L) (hLn : L.length <= 2932031007390) {a : Option Addr} {n c : Nat} {k : List Int} (hk : Sk K1 w a n c k) (hn : 32 < n) :
  Calls Tryz.prog 11 #[.pointer (some ⟨g, 0, none⟩), .slice a n c] w fun e w' => ∃ u, e = .returned u /\ (fun u w' => u = .tuple #[.slice none 0 0, .int .i64 70] /\ Bl w w') u w' := by
 have hB := Bl.refl w
 have lk := hk.len
 refine Zaj Tryz.func11 rfl 31 rfl ?_
 show CW _ _ _ _ _ _ _ [(0, .pointer (some ⟨g, 0, none⟩)), (1, .slice a n c)] _
 refine Zac <| Zaa <| rp 4 (.slice none 0 0) <| rp 5 (.int .i64 0) <| Zad <| Zab <| Zac <| Zac <| Zaa <| rp 10 (.slice a n c) <| Zao 11 26 #[.slice a n c] (fun _ => by kernel_rfl) (fun _ => by kernel_rfl) (R := fun u w' => u = .bool false /\ Bl (w) w') ((isKey_any.mono (fun e w' ⟨u, e1, e2, e3⟩ => ⟨u, e1, by rw [e2, decide_eq_false (by omega)], e3⟩))) ?_
 rintro _ u1 ⟨rfl, hb1⟩
 replace hB := hB.go hb1
 replace hk := hk.go hb1
 have hTu := hT.go hb1
 refine rp 12 (.bool true) <| Zad <| Zab <| Zak (fun _ => by kernel_rfl) <| Zac <| Zaa <| rp 4 (.slice none 0 0) <| rp 5 (.int .i64 70) <| Zad <| Zab <| Zap <| Zaq ?_
 exact Zae (.tuple #[.slice none 0 0, .int .i64 70]) (fun _ => by kernel_rfl) ⟨_, rfl, rfl, hB⟩
set_option maxHeartbeats 4000000 in
theorem Zt0 {K K1 : Nat -> Prop} {w : World} {g : Nat} {t : Tr} {L : PList} (hT : Tri K w g t) (hRel : Rel t L) (hLn : L.length <= 2932031007390) {a : Option Addr} {n c : Nat} {k : List Int} (hk : Sk K1 w a n c k) (hn : n <= 32) (hno : t = no) :
  Calls Tryz.prog 11 #[.pointer (some ⟨g, 0, none⟩), .slice a n c] w fun e w' => ∃ u, e = .returned u /\ (fun u w' => (∃ v base, u = .tuple #[v, .int .i64 0] /\ w.heap.size <= base /\ OwnS w' base v (prvP t k)) /\ Bl w w') u w' := by
 have hB := Bl.refl w
 have lk := hk.len
 refine Zaj Tryz.func11 rfl 31 rfl ?_
 show CW _ _ _ _ _ _ _ [(0, .pointer (some ⟨g, 0, none⟩)), (1, .slice a n c)] _
 refine Zac <| Zaa <| rp 4 (.slice none 0 0) <| rp 5 (.int .i64 0) <| Zad <| Zab <| Zac <| Zac <| Zaa <| rp 10 (.slice a n c) <| Zao 11 26 #[.slice a n c] (fun _ => by kernel_rfl) (fun _ => by kernel_rfl) (R := fun u w' => u = .bool true /\ Bl (w) w') ((isKey_any.mono (fun e w' ⟨u, e1, e2, e3⟩ => ⟨u, e1, by rw [e2, decide_eq_true (by omega)], e3⟩))) ?_
 rintro _ u1 ⟨rfl, hb1⟩
 replace hB := hB.go hb1
 replace hk := hk.go hb1
 have hTu := hT.go hb1
 refine rp 12 (.bool false) <| Zad <| Zab <| Zai (fun _ => by kernel_rfl) <| Zan <| Zab <| Zac <| Zaa <| rp 13 (.pointer (some ⟨g, 0, none⟩)) <| Zao 14 27 #[.pointer (some ⟨g, 0, none⟩)] (fun _ => by kernel_rfl) (fun _ => by kernel_rfl) (R := EnR u1 (entsF [] t)) ((Zho hTu (fun e he => by rw [hRel.ents] at he; exact ((hRel.m e.1 e.2).1 he).2.1) (by rw [hRel.ents]; omega))) ?_
 rintro _ u2 ⟨⟨aV, cV, vsV, rfl, hPt⟩, hb2⟩
 replace hB := hB.go hb2
 replace hk := hk.go hb2
 rw [hRel.entN] at hPt
 obtain ⟨nE, hnE⟩ : ∃ m, (entsF [] t).length = m := ⟨_, rfl⟩
 have hnL : nE <= 2932031007390 := by rw [<- hnE, hRel.ents]; exact hLn
 rw [hnE] at hPt ⊢
 have hlE : nE = (entsR t).length := by rw [<- hPt.ll, Zde]
 obtain rfl : nE = 0 := by rw [hlE, hno]; rfl
 refine rp 6 (.slice aV 0 cV) <| Zad <| Zab <| Zac <| Zac <| Zaa <| rp 15 (.slice aV 0 cV) <| rp 16 (.int .i64 0) <| rp 17 (.bool true) <| Zad <| Zab <| Zak (fun _ => by kernel_rfl) ?_
 refine Zac <| Zaa <| rp 4 (.slice none 0 0) <| rp 5 (.int .i64 0) <| Zad <| Zab <| Zap <| Zaq ?_
 exact Zae (.tuple #[.slice none 0 0, .int .i64 0]) (fun _ => by kernel_rfl) ⟨_, rfl, ⟨_, w.heap.size, rfl, Nat.le_refl _, by rw [hno]; exact OwnS.none _ _⟩, hB⟩
set_option maxHeartbeats 4000000 in
theorem Zko {K K1 : Nat -> Prop} {w : World} {g : Nat} {t : Tr} {L : PList} (hT : Tri K w g t) (hRel : Rel t L) (hLn : L.length <= 2932031007390) {a : Option Addr} {n c : Nat} {k : List Int} (hk : Sk K1 w a n c k) (hn : n <= 32) (hOk : Tr.Ok 64 t) (hVb : Vb t) (hwy : (wyN (Ni.nib k) t []).length <= 4000000000000) :
  Calls Tryz.prog 11 #[.pointer (some ⟨g, 0, none⟩), .slice a n c] w fun e w' => ∃ u, e = .returned u /\ (fun u w' => (∃ v base, u = .tuple #[v, .int .i64 0] /\ w.heap.size <= base /\ OwnS w' base v (prvP t k)) /\ Bl w w') u w' := by
 have hB := Bl.refl w
 have lk := hk.len
 refine Zaj Tryz.func11 rfl 31 rfl ?_
 show CW _ _ _ _ _ _ _ [(0, .pointer (some ⟨g, 0, none⟩)), (1, .slice a n c)] _
 refine Zac <| Zaa <| rp 4 (.slice none 0 0) <| rp 5 (.int .i64 0) <| Zad <| Zab <| Zac <| Zac <| Zaa <| rp 10 (.slice a n c) <| Zao 11 26 #[.slice a n c] (fun _ => by kernel_rfl) (fun _ => by kernel_rfl) (R := fun u w' => u = .bool true /\ Bl (w) w') ((isKey_any.mono (fun e w' ⟨u, e1, e2, e3⟩ => ⟨u, e1, by rw [e2, decide_eq_true (by omega)], e3⟩))) ?_
 rintro _ u1 ⟨rfl, hb1⟩
 replace hB := hB.go hb1
 replace hk := hk.go hb1
 have hTu := hT.go hb1
 refine rp 12 (.bool false) <| Zad <| Zab <| Zai (fun _ => by kernel_rfl) <| Zan <| Zab <| Zac <| Zaa <| rp 13 (.pointer (some ⟨g, 0, none⟩)) <| Zao 14 27 #[.pointer (some ⟨g, 0, none⟩)] (fun _ => by kernel_rfl) (fun _ => by kernel_rfl) (R := EnR u1 (entsF [] t)) ((Zho hTu (fun e he => by rw [hRel.ents] at he; exact ((hRel.m e.1 e.2).1 he).2.1) (by rw [hRel.ents]; omega))) ?_
 rintro _ u2 ⟨⟨aV, cV, vsV, rfl, hPt⟩, hb2⟩
 replace hB := hB.go hb2
 replace hk := hk.go hb2
 rw [hRel.entN] at hPt
 obtain ⟨nE, hnE⟩ : ∃ m, (entsF [] t).length = m := ⟨_, rfl⟩
 have hnL : nE <= 2932031007390 := by rw [<- hnE, hRel.ents]; exact hLn
 rw [hnE] at hPt ⊢
 have hlE : nE = (entsR t).length := by rw [<- hPt.ll, Zde]
 have hn0 : 0 < nE := by rw [hlE]; exact List.length_pos_iff.2 (Zhn _ hOk)
 refine rp 6 (.slice aV nE cV) <| Zad <| Zab <| Zac <| Zac <| Zaa <| rp 15 (.slice aV nE cV) <| rp 16 (.int .i64 nE) <| rv 17 (.bool false) (fun _ => Zag (v := .bool ((nE : Int) == (0 : Int))) (by kernel_rfl) (congrArg Value.bool (beq_eq_false_iff_ne.2 (by omega)))) <| Zad <| Zab <| Zai (fun _ => by kernel_rfl) ?_
 refine Zan <| Zab <| Zac <| Zaa <| rp 18 (.slice a n c) ?_
 have hbo := Bl.refl u2
 have hz2 := hB.size
 refine Zao 19 28 #[.slice a n c] (fun _ => by kernel_rfl) (fun _ => by kernel_rfl) (R := fun u w' => (∃ a', u = .slice a' (2 * n) (2 * n) /\ Ni.Cut w' (u2).heap.size a' (2 * n) (Ni.nib k)) /\ Bl (u2) w') (((Ni.of_any a n c k (u2) hk.ag (by omega)).mono (fun e w' ⟨⟨a', e1, e2⟩, e3⟩ => ⟨_, e1, ⟨a', rfl, e2⟩, e3⟩))) ?_
 rintro _ u3 ⟨⟨a3, rfl, hc3⟩, hb3⟩
 replace hB := hB.go hb3
 replace hk := hk.go hb3
 replace hbo := hbo.go hb3
 have hp3 := Cut.skb hc3
 have hz3 := hb3.size
 refine rp 20 (.agg #[.slice a3 (2 * n) (2 * n), .slice none 0 0]) <| Zax 7 #[.slice none 0 0, .slice none 0 0] 59 (fun _ => by kernel_rfl) (fun _ => by kernel_rfl) ?_
 intro wA gA hnA
 refine Zbm gA #[.slice a3 (2 * n) (2 * n), .slice none 0 0] (fun _ => by kernel_rfl) (fun _ => Za3 59 _ _ _ _ _ _ rfl (by kernel_rfl) (by kernel_rfl) hnA.row (by kernel_rfl) rfl (by kernel_rfl)) ?_
 intro wC hpC
 have hnC := hnA.put hpC
 have hgA := hnC.hg
 have hszC := hnC.size
 replace hB := hB.go hnC.below
 replace hk := hk.go hnC.below
 replace hbo := hbo.go hnC.below
 replace hp3 := hp3.go hnC.below
 have hrA : Rw gA wC #[.slice a3 (2 * n) (2 * n), .slice none 0 0] 59 := hnC.row
 refine Zad <| Zab <| Zac <| Zaa <| rp 21 (.slice aV nE cV) ?_
 have hPC : PAt (KW gA (.slice none 0 0) (fun _ => True)) wC aV nE cV vsV (entN [] t) := (hPt.old.mono (fun b hb => ⟨by have := hb.2; omega, by simp [Value.ownBlock], trivial⟩)).go hbo
 have hpC2 : Sk (KW gA (.slice none 0 0) (fun _ => True)) wC a3 (2 * n) (2 * n) (Ni.nib k) := hp3.mono (fun b hb => ⟨by have := hb.2; omega, by simp [Value.ownBlock], trivial⟩)
 have hE := Zyg (kp := Ni.nib k) hOk hVb [] (Wp.start (X := fun _ => True) hrA) hPC hpC2 (fun _ _ => trivial) (by rw [List.nil_append]; omega) (by omega) (by omega) (dp := 0) rfl (fun e he => by have := hRel.paths e he; omega)
 refine Zao 22 29 #[.pointer (some ⟨gA, 0, none⟩), .slice aV nE cV, .int .i64 0] (fun _ => by kernel_rfl) (fun _ => by kernel_rfl) (R := REp wC gA (.slice a3 (2 * n) (2 * n)) gA (.slice none 0 0) (fun _ => True) [] (Ni.nib k) [] t) (hE) ?_
 rintro _ u4 ⟨a4, n4, c4, vM, rfl, hs4, hW4, hG4, hl4⟩
 have hB4 := hG4.bl hB (by omega) (fun q hq => by simp [Value.ownBlock] at hq)
 rw [List.nil_append] at hW4
 have hrM := hW4.r
 have hO4 := hW4.own
 have hz4 := hG4.size
 clear hB
 refine rp 8 (.slice a4 n4 c4) <| Zad <| Zab <| Zac <| Zaa <| rp 23 (.pointer (some ⟨gA, 1, none⟩)) <| rv 24 (vM) (fun _ => Zah 28 _ ⟨gA, 1, none⟩ _ _ rfl (by kernel_rfl) (by rw [cell_of_row _ _ _ _ _ _ hrM]; rfl) Tryz.underlying28 rfl) <| rp 25 (.slice a4 n4 c4) <| Zbi 26 #[.slice a4 n4 c4] 23 1 (fun _ => by kernel_rfl) (fun _ => by kernel_rfl) ?_
 intro w5 gN hnN
 have hB1 := Bt.one hnN (hs4.mono (K' := fun b => vM.ownBlock ≠ some b) (fun b hb => hb.2.1))
 have hO5 := hO4.far hnN.below
 have hB5 := hB4.go hnN.below
 have hz5 := hnN.below.size
 obtain ⟨vP, w6, hr6, hO6, hb6⟩ := appT (c := 1) hO5 hB1 (fun b hb => hb) (by omega) (by omega)
 refine rw_v 27 vP (fun _ => by kernel_rfl) (fun _ => Zec hr6 _ _ rfl (by kernel_rfl) (by kernel_rfl)) ?_
 have hB6 : Bl w w6 := Below.trans hB5 (hb6.mono (by omega))
 refine rp 9 (vP) <| Zad <| Zab <| Zac <| Zaa <| rp 28 (vP) <| Zao 29 30 #[vP] (fun _ => by kernel_rfl) (fun _ => by kernel_rfl) (R := fun u w' => OwnS w' gA vP (wyN (Ni.nib k) t [] ++ [encT t]).reverse /\ Below gA w6 w') ((Zxa hO6 (by simp) (by rw [List.length_append, List.length_singleton]; omega))) ?_
 rintro q7 u7 ⟨hO7, hb7⟩
 have hB7 : Bl w u7 := Below.trans hB6 (hb7.mono (by omega))
 refine Zad <| Zab <| Zac <| Zaa <| rp 30 (vP) <| rp 4 (vP) <| rp 5 (.int .i64 0) <| Zad <| Zab <| Zap ?_
 exact Zae (.tuple #[vP, .int .i64 0]) (fun _ => by kernel_rfl) ⟨_, rfl, ⟨vP, gA, rfl, by omega, by unfold prvP; rw [if_neg (fun h => hOk.ne (isNo_iff.1 h))]; exact hO7⟩, hB7⟩
end Go.Proofs.YtefhepcplempkaaGreat
namespace Go.Proofs.YtefhepcplempkaaGreat
open Go.RowKit
open Tr
open Di (dref)
def Cla (M : List (List Int)) (i k : Nat) : Prop := M.getD i [] ≠ M.getD k [] /\ dref (M.getD i []) = dref (M.getD k [])
end Go.Proofs.YtefhepcplempkaaGreat
namespace Go.Proofs.YtefhepcplempkaaGreat
open Go.RowKit
def Gd (K : Nat -> Prop) (w : World) (p : Value × List Int) : Prop := ∃ a n c, p.1 = .slice a n c /\ Sk K w a n c p.2
theorem Gd.tou {K : Nat -> Prop} {w w' : World} {g : Nat} {p : Value × List Int} (h : Gd K w p) (t : Touch g w w') (hg : ¬ K g) : Gd K w' p := by
 obtain ⟨a, n, c, h1, h2⟩ := h
 exact ⟨a, n, c, h1, h2.tou t hg⟩
theorem Touch.setCells (g : Nat) : ∀ (vs : List Value) (w : World) (o : Nat), Touch g w (w.setCells g o vs)
 | [], w, o => Touch.refl g w
 | v :: r, w, o => (Touch.setCell g w o v).trans (Touch.setCells g r _ _)
theorem Zkt {w : World} {ρ : Operand -> Value} {o : Oper} (x y : Operand) (g off k l c l2 c2 : Nat) (ho : o.op = .slice 28 x (some y) none none) (hx : ρ x = .slice (some ⟨g, off, none⟩) l c) (hy : ρ y = .int .i64 ((k : Nat) : Int)) (hl : l = k + l2) (hc : c = k + c2) (h0 : 0 < c2) : (execOp ρ o).run Tryz.prog w = .ok (.value (.slice (some ⟨g, off + k * 1, none⟩) l2 c2)) w := by
 subst hl hc
 unfold execOp
 rw [ho]
 have h2 : k + l2 - k = l2 := by omega
 have h3 : k + c2 - k = c2 := by omega
 simp [hx, hy, Instr.sliceAt, run_underlying Tryz.underlying28, Instr.slice, Instr.sliceBounds, Instr.sliceBound, asIntOf, h2, h3, Result.andThen, Za1]
 omega
theorem Zxp {w : World} {ρ : Operand -> Value} {o : Oper} (x y : Operand) (g off k l c : Nat) (ho : o.op = .slice 28 x none (some y) none) (hx : ρ x = .slice (some ⟨g, off, none⟩) l c) (hy : ρ y = .int .i64 ((k : Nat) : Int)) (hk : k <= c) (h0 : 0 < c) : (execOp ρ o).run Tryz.prog w = .ok (.value (.slice (some ⟨g, off, none⟩) k c)) w := by
 unfold execOp
 rw [ho]
 have h1 : ¬ (c = 0) := by omega
 simp [hx, hy, Instr.sliceAt, run_underlying Tryz.underlying28, Instr.slice, Instr.sliceBounds, Instr.sliceBound, asIntOf, h1, hk, Result.andThen, Za1]
theorem Zt5 {w : World} {ρ : Operand -> Value} {o : Oper} (x : Operand) (g off l c : Nat) (cur : Array Value) (ho : o.op = .call { callee := .builtin .clear, args := #[x], argTypes := #[28] }) (hx : ρ x = .slice (some ⟨g, off, none⟩) l c) (hr : Rw g w cur 23) (hl : 0 < l) (hs : off + l <= cur.size) : (execOp ρ o).run Tryz.prog w = .ok (.value (.tuple #[])) (w.setCells g off (List.replicate l (.slice none 0 0))) := by
 have hrun := fun ty => Lib.run_clear_slice (P := Tryz.prog) w 28 23 ty (.slice none 0 0) Tryz.underlying28 Tryz.zeroValue23 rfl rfl g off l c hl (fun j hj => by rw [cell_of_row _ _ _ _ _ _ hr]; simp; omega) (fun j hj => frozen_of_row _ _ _ _ _ hr)
 unfold execOp
 simp only [ho, resolve, invoke, builtin, Sem.run_bind, Sem.run_pure, Result.andThen_ok, List.map_toArray, List.map_cons, List.map_nil, hx, hrun]
structure CI (K : Nat -> Prop) (w : World) (gb n cap m : Nat) (ps : List (Value × List Int)) (m2 q : Nat) (cu : Array Value) (qs : List (Value × List Int)) (v : World) : Prop where
 r : Rw gb v cu 23
 t : Touch gb w v
 le : m + 1 + (m2 + 1) <= n
 sz : cu.size = cap
 ql : qs.length = q
 qm : q <= m + m2 + 1
 ddq : qs.map Prod.snd = dd ((ps.map Prod.snd).take (m + 1 + (m2 + 1)))
 gd : ∀ p ∈ qs, Gd K w p
 tk : cu.toList.take q = qs.map Prod.fst
 rest : ∀ j, m + m2 + 1 <= j -> j < n -> cu[j]? = (ps[j]?).map Prod.fst
theorem CI.go {K : Nat -> Prop} {w : World} {gb n cap m : Nat} {ps : List (Value × List Int)} {m2 q : Nat} {cu : Array Value} {qs : List (Value × List Int)} {v v' : World} (h : CI K w gb n cap m ps m2 q cu qs v) (hb : Below v.heap.size v v') : CI K w gb n cap m ps m2 q cu qs v' :=
 ⟨h.r.go hb, h.t.trans (Touch.of_below hb), h.le, h.sz, h.ql, h.qm, h.ddq, h.gd, h.tk, h.rest⟩
theorem CI.drew {K : Nat -> Prop} {w : World} {gb n cap m : Nat} {ps : List (Value × List Int)} {m2 q : Nat} {cu : Array Value} {qs : List (Value × List Int)} {v : World} (h : CI K w gb n cap m ps m2 q cu qs v) : CI K w gb n cap m ps m2 q cu qs v.drew := h.go (Below.refl _ _).drew
theorem Zth {M : List (List Int)} {i : Nat} {a b : List Int} (ha : M[i]? = some a) (hb : M[i + 1]? = some b) : M.take (i + 2) = M.take i ++ [a, b] /\ M.take (i + 1) = M.take i ++ [a] := by
 have e1 : M.take (i + 1) = M.take i ++ [a] := by rw [List.take_add_one, ha]; rfl
 have e2 : M.take (i + 2) = M.take (i + 1) ++ [b] := by rw [List.take_add_one, hb]; rfl
 exact ⟨by rw [e2, e1]; simp, e1⟩
theorem Zjt {M : List (List Int)} {i : Nat} {a b : List Int} (ha : M[i]? = some a) (hb : M[i + 1]? = some b) : dd (M.take (i + 2)) = dd (M.take (i + 1)) ++ (if b = a then [] else [b]) := by
 obtain ⟨h1, h2⟩ := Zth ha hb
 rw [h1, h2]; exact Zyn _ _ _
theorem CI.start {K : Nat -> Prop} {w v : World} {gb n cap m : Nat} {ps : List (Value × List Int)} {cur : Array Value} (hr : Rw gb v cur 23) (ht : Touch gb w v) (hcur : cur.toList.take n = ps.map Prod.fst) (hsz : cur.size = cap) (hn : ps.length = n) (hg : ∀ p ∈ ps, Gd K w p) (hm : m + 1 < n) (hd : dd ((ps.map Prod.snd).take (m + 1)) = (ps.map Prod.snd).take (m + 1)) {p p' : Value × List Int} (h1 : ps[m]? = some p) (h2 : ps[m + 1]? = some p') (he : p'.2 = p.2) : CI K w gb n cap m ps 0 (m + 1) cur (ps.take (m + 1)) v := by
 have hM1 : (ps.map Prod.snd)[m]? = some p.2 := by rw [List.getElem?_map, h1]; rfl
 have hM2 : (ps.map Prod.snd)[m + 1]? = some p'.2 := by rw [List.getElem?_map, h2]; rfl
 refine ⟨hr, ht, by omega, hsz, by simp; omega, by omega, ?_, fun p hp => hg p (List.mem_of_mem_take hp), ?_, fun j _ hj => ?_⟩
 ·rw [show m + 1 + (0 + 1) = m + 2 from rfl, Zjt hM1 hM2, if_pos he, List.append_nil, hd, List.map_take]
 ·have := congrArg (List.take (m + 1)) hcur
  rw [List.take_take, Nat.min_eq_left (by omega)] at this
  rw [this, List.map_take]
 ·rw [<- List.getElem?_map, <- hcur, List.getElem?_take_of_lt hj, Array.getElem?_toList]
theorem CI.keep {K : Nat -> Prop} {w : World} {gb n cap m : Nat} {ps : List (Value × List Int)} {m2 q : Nat} {cu : Array Value} {qs : List (Value × List Int)} {v : World} (h : CI K w gb n cap m ps m2 q cu qs v) {p p' : Value × List Int} (h1 : ps[m + m2 + 1]? = some p) (h2 : ps[m + m2 + 1 + 1]? = some p') (hn : m + 1 + (m2 + 1) < n) (he : p'.2 = p.2) : CI K w gb n cap m ps (m2 + 1) q cu qs v := by
 have hM1 : (ps.map Prod.snd)[m + m2 + 1]? = some p.2 := by rw [List.getElem?_map, h1]; rfl
 have hM2 : (ps.map Prod.snd)[m + m2 + 1 + 1]? = some p'.2 := by rw [List.getElem?_map, h2]; rfl
 have hq := h.qm
 refine ⟨h.r, h.t, by omega, h.sz, h.ql, by omega, ?_, h.gd, h.tk, fun j hj hj2 => h.rest j (by omega) hj2⟩
 rw [show m + 1 + (m2 + 1 + 1) = m + m2 + 1 + 2 from by omega, Zjt hM1 hM2, if_pos he, List.append_nil, h.ddq, show m + 1 + (m2 + 1) = m + m2 + 1 + 1 from by omega]
theorem CI.move {K : Nat -> Prop} {w : World} {gb n cap m : Nat} {ps : List (Value × List Int)} {m2 q : Nat} {cu : Array Value} {qs : List (Value × List Int)} {v v' : World} (h : CI K w gb n cap m ps m2 q cu qs v) {p p' : Value × List Int} (h1 : ps[m + m2 + 1]? = some p) (h2 : ps[m + m2 + 1 + 1]? = some p') (hn : m + 1 + (m2 + 1) < n) (hc : n <= cap) (he : ¬ p'.2 = p.2) (hg : Gd K w p') (hs : Set1 v v' gb q p'.1) (h11 : p'.1.oneCell' = true) : CI K w gb n cap m ps (m2 + 1) (q + 1) (cu.setIfInBounds q p'.1) (qs ++ [p']) v' := by
 have hM1 : (ps.map Prod.snd)[m + m2 + 1]? = some p.2 := by rw [List.getElem?_map, h1]; rfl
 have hM2 : (ps.map Prod.snd)[m + m2 + 1 + 1]? = some p'.2 := by rw [List.getElem?_map, h2]; rfl
 have hq := h.qm
 have hsz := h.sz
 refine ⟨h.r.set hs rfl, h.t.trans hs.touch, by omega, by simp [h.sz], by simp [h.ql], by omega, ?_, ?_, ?_, fun j hj hj2 => ?_⟩
 ·rw [show m + 1 + (m2 + 1 + 1) = m + m2 + 1 + 2 from by omega, Zjt hM1 hM2, if_neg he, show m + m2 + 1 + 1 = m + 1 + (m2 + 1) from by omega, <- h.ddq, List.map_append]; rfl
 ·intro x hx
  rcases List.mem_append.1 hx with hx | hx
  ·exact h.gd x hx
  ·rw [List.mem_singleton.1 hx]; exact hg
 ·rw [Array.toList_setIfInBounds, List.take_add_one, List.map_append, <- h.tk]
  have : (cu.toList.set q p'.1)[q]? = some p'.1 := by rw [List.getElem?_set_self (by simp; omega)]
  rw [this, List.take_set_of_le (Nat.le_refl _)]; rfl
 ·rw [Array.getElem?_setIfInBounds_ne (by omega)]
  exact h.rest j (by omega) hj2
theorem CI.done {K : Nat -> Prop} {w : World} {gb n cap m : Nat} {ps : List (Value × List Int)} {m2 q : Nat} {cu : Array Value} {qs : List (Value × List Int)} {v : World} (h : CI K w gb n cap m ps m2 q cu qs v) (hn : ps.length = n) (hm : m + 1 + (m2 + 1) = n) (hK : ¬ K gb) (vs : List Value) : Bt K (v.setCells gb (0 + q * 1) vs) (some ⟨gb, 0, none⟩) q (dd (ps.map Prod.snd)) /\ Touch gb w (v.setCells gb (0 + q * 1) vs) := by
 have ht := h.t.trans (Touch.setCells gb vs v (0 + q * 1))
 have hd : qs.map Prod.snd = dd (ps.map Prod.snd) := by rw [h.ddq, hm, List.take_of_length_le (by simp; omega)]
 refine ⟨⟨by rw [<- hd, List.length_map, h.ql], fun j hj => ?_⟩, ht⟩
 have hjq : j < qs.length := by rw [h.ql]; exact hj
 obtain ⟨a, n', c, h1, h2⟩ := h.gd qs[j] (List.getElem_mem hjq)
 refine ⟨gb, 0, a, n', c, rfl, ?_, ?_⟩
 ·rw [World.cell?_setCells_out gb vs (0 + q * 1) v _ (fun _ _ => .inl (by show 0 + j * 1 < 0 + q * 1; omega)), cell_of_row _ _ _ _ _ _ h.r, <- h1]
  have := congrArg (fun l => l[j]?) h.tk
  simp only [List.getElem?_take_of_lt hj, List.getElem?_map, List.getElem?_eq_getElem hjq, Option.map_some, Array.getElem?_toList] at this
  rw [show 0 + j * 1 = j from by omega]
  exact this
 ·rw [<- hd]
  have e : (qs.map Prod.snd).getD j [] = qs[j].2 := by simp [List.getD, hjq]
  rw [e]
  exact h2.tou ht hK
end Go.Proofs.YtefhepcplempkaaGreat

/- A row of byte strings is rid of its doubles. -/
import Derived.Test.YtefhepcplempkaaGreatG30
import Derived.Test.YtefhepcplempkaaGreatG00
import Derived.Shelf.SlSortCmp.Whole1
import Derived.Ground.SlsfProg
import Derived.Test.YtefhepcplempkaaGreatProg
import Derived.Test.YtefhepcplempkaaGreatG26
import Derived.Test.YtefhepcplempkaaGreatG29
set_option linter.unusedVariables false
set_option maxRecDepth 100000
namespace Go.Proofs.YtefhepcplempkaaGreat
open Go.RowKit
theorem Zkd {K : Nat -> Prop} {w : World} {n : Nat} {ps : List (Value × List Int)} {cur : Array Value} (hcur : cur.toList.take n = ps.map Prod.fst) (hn : ps.length = n) (hg : ∀ p ∈ ps, Gd K w p) {j : Nat} (hj : j < n) : ∃ a m c x, ps[j]? = some (.slice a m c, x) /\ cur[j]? = some (.slice a m c) /\ Sk K w a m c x := by
 have hjp : j < ps.length := by omega
 obtain ⟨a, m, c, h1, h2⟩ := hg ps[j] (List.getElem_mem hjp)
 refine ⟨a, m, c, ps[j].2, ?_, ?_, h2⟩
 ·rw [List.getElem?_eq_getElem hjp, <- h1]
 ·have := congrArg (fun l => l[j]?) hcur
  simp only [List.getElem?_take_of_lt hj, List.getElem?_map, List.getElem?_eq_getElem hjp, Option.map_some, Array.getElem?_toList] at this
  rw [this, h1]
theorem Z0o (M : List (List Int)) (h : 0 < M.length) : dd (M.take (0 + 1)) = M.take (0 + 1) := by
 cases M with
 | nil => rfl
 | cons x M => simp [dd, ddg]
theorem Zuw (M : List (List Int)) (h : M.length < 2) : dd M = M := by
 match M, h with
 | [], _ => rfl
 | [x], _ => rfl
theorem dd_go {ps : List (Value × List Int)} {m : Nat} {p p' : Value × List Int} (h1 : ps[m]? = some p) (h2 : ps[m + 1]? = some p') (hd : dd ((ps.map Prod.snd).take (m + 1)) = (ps.map Prod.snd).take (m + 1)) (he : ¬ p'.2 = p.2) : dd ((ps.map Prod.snd).take (m + 1 + 1)) = (ps.map Prod.snd).take (m + 1 + 1) := by
 have hM1 : (ps.map Prod.snd)[m]? = some p.2 := by rw [List.getElem?_map, h1]; rfl
 have hM2 : (ps.map Prod.snd)[m + 1]? = some p'.2 := by rw [List.getElem?_map, h2]; rfl
 rw [Zjt hM1 hM2, if_neg he, hd, List.take_add_one (i := m + 1), hM2]; rfl
theorem Zny {K : Nat -> Prop} {w : World} {gb n : Nat} {ps : List (Value × List Int)} {cur : Array Value} (hr : Rw gb w cur 23) (hcur : cur.toList.take n = ps.map Prod.fst) (hn : ps.length = n) (hg : ∀ p ∈ ps, Gd K w p) (hd : dd (ps.map Prod.snd) = ps.map Prod.snd) : Bt K w (some ⟨gb, 0, none⟩) n (dd (ps.map Prod.snd)) := by
 rw [hd]
 refine ⟨by simp [hn], fun j hj => ?_⟩
 obtain ⟨a, m, c, x, h1, h2, h3⟩ := Zkd hcur hn hg hj
 refine ⟨gb, 0, a, m, c, rfl, ?_, ?_⟩
 ·rw [cell_of_row _ _ _ _ _ _ hr, show 0 + j * 1 = j from by omega]; exact h2
 ·rw [List.getD, List.getElem?_map, h1]; exact h3
set_option maxHeartbeats 1000000 in
theorem Zjw {K : Nat -> Prop} {w : World} {gb n cap : Nat} {ps : List (Value × List Int)} {cur : Array Value} (hr : Rw gb w cur 23) (hcur : cur.toList.take n = ps.map Prod.fst) (hsz : cur.size = cap) (hn : ps.length = n) (hle : n <= cap) (hg : ∀ p ∈ ps, Gd K w p) (hK : ¬ K gb) (hb : n <= 8800000000002) (h2 : n < 2) :
  Calls Tryz.prog 47 #[.slice (some ⟨gb, 0, none⟩) n cap, .func (.func 48) #[] #[]] w fun e w' => ∃ u, e = .returned u /\ (fun u w' => ∃ k, u = .slice (some ⟨gb, 0, none⟩) k cap /\ Bt K w' (some ⟨gb, 0, none⟩) k (dd (ps.map Prod.snd)) /\ Touch gb w w') u w' := by
 have hB := Bl.refl w
 refine Zaj Tryz.func47 rfl 66 rfl ?_
 show CW _ _ _ _ _ _ _ [(0, .slice (some ⟨gb, 0, none⟩) n cap), (1, .func (.func 48) #[] #[])] _
 refine Zac <| Zaa <| rp 4 (.slice none 0 0) <| Zad <| Zab <| Zac <| Zac <| Zaa <| rp 8 (.slice (some ⟨gb, 0, none⟩) n cap) <| rp 9 (.int .i64 n) <| rv 10 (.bool true) (fun _ => Zag (v := .bool (decide ((n : Int) < (2 : Int)))) (by kernel_rfl) (congrArg Value.bool (decide_eq_true (by omega)))) <| Zad ?_
 refine Zab <| Zak (fun _ => by kernel_rfl) <| Zac <| Zaa <| rp 11 (.slice (some ⟨gb, 0, none⟩) n cap) <| rp 4 (.slice (some ⟨gb, 0, none⟩) n cap) <| Zad <| Zab <| Zap <| Zaq ?_
 exact Zae (.slice (some ⟨gb, 0, none⟩) n cap) (fun _ => by kernel_rfl) ⟨_, rfl, n, rfl, Zny hr hcur hn hg (Zuw _ (by simp; omega)), Touch.refl _ _⟩
set_option maxHeartbeats 4000000 in
theorem Zmc {K : Nat -> Prop} {w : World} {gb n cap : Nat} {ps : List (Value × List Int)} {cur : Array Value} (hr : Rw gb w cur 23) (hcur : cur.toList.take n = ps.map Prod.fst) (hsz : cur.size = cap) (hn : ps.length = n) (hle : n <= cap) (hg : ∀ p ∈ ps, Gd K w p) (hK : ¬ K gb) (hb : n <= 8800000000002) (h2 : ¬ n < 2) :
  Calls Tryz.prog 47 #[.slice (some ⟨gb, 0, none⟩) n cap, .func (.func 48) #[] #[]] w fun e w' => ∃ u, e = .returned u /\ (fun u w' => ∃ k, u = .slice (some ⟨gb, 0, none⟩) k cap /\ Bt K w' (some ⟨gb, 0, none⟩) k (dd (ps.map Prod.snd)) /\ Touch gb w w') u w' := by
 have hB := Bl.refl w
 refine Zaj Tryz.func47 rfl 66 rfl ?_
 show CW _ _ _ _ _ _ _ [(0, .slice (some ⟨gb, 0, none⟩) n cap), (1, .func (.func 48) #[] #[])] _
 refine Zac <| Zaa <| rp 4 (.slice none 0 0) <| Zad <| Zab <| Zac <| Zac <| Zaa <| rp 8 (.slice (some ⟨gb, 0, none⟩) n cap) <| rp 9 (.int .i64 n) <| rv 10 (.bool false) (fun _ => Zag (v := .bool (decide ((n : Int) < (2 : Int)))) (by kernel_rfl) (congrArg Value.bool (decide_eq_false (by omega)))) <| Zad ?_
 refine Zab <| Zai (fun _ => by kernel_rfl) <| Zan <| Zab <| Zac <| Zac <| Zaa <| rp 5 (.int .i64 1) <| Zad <| Zab <| Zar <| Zby (X := Nat) (fun m => [(5, .int .i64 ((m + 1 : Nat) : Int)), (0, .slice (some ⟨gb, 0, none⟩) n cap), (1, .func (.func 48) #[] #[])]) (fun m v => Bl w v /\ m + 1 <= n /\ dd ((ps.map Prod.snd).take (m + 1)) = (ps.map Prod.snd).take (m + 1)) (fun m => n - m) 0 (by exact ⟨fun _ => by kernel_rfl, ⟨fun _ => by kernel_rfl, ⟨fun _ => by kernel_rfl, trivial⟩⟩⟩) ⟨hB, by omega, Z0o _ (by simp; omega)⟩ ?_
 clear hB
 rintro m v ⟨hB, hm, hd⟩
 by_cases hlt : m + 1 < n
 ·skip
  obtain ⟨a1, n1, c1, x1, hp1, hc1, hs1⟩ := Zkd hcur hn hg (show m < n from by omega)
  obtain ⟨a2, n2, c2, x2, hp2, hc2, hs2⟩ := Zkd hcur hn hg hlt
  have hS : Two K K v ⟨gb, 0 + (m + 1) * 1, none⟩ ⟨gb, 0 + m * 1, none⟩ a2 a1 n2 c2 n1 c1 x2 x1 := ⟨by rw [cell_of_row _ _ _ _ _ _ (hr.go hB), show 0 + (m + 1) * 1 = m + 1 from by omega]; exact hc2, hs2.go hB, by rw [cell_of_row _ _ _ _ _ _ (hr.go hB), show 0 + m * 1 = m from by omega]; exact hc1, hs1.go hB⟩
  refine Zac <| Zac <| Zaa <| rp 12 (.int .i64 ((m + 1 : Nat) : Int)) <| rp 13 (.slice (some ⟨gb, 0, none⟩) n cap) <| rp 14 (.int .i64 n) <| rv 15 (.bool true) (fun _ => Zag (v := .bool (decide (((m + 1 : Nat) : Int) < (n : Int)))) (by kernel_rfl) (congrArg Value.bool (decide_eq_true (by omega)))) <| Zad <| Zab <| Zak (fun _ => by kernel_rfl) <| Zan <| Zab ?_
  refine Zac <| Zar <| Zac <| Zaz (fun v => Two K K v ⟨gb, 0 + (m + 1) * 1, none⟩ ⟨gb, 0 + m * 1, none⟩ a2 a1 n2 c2 n1 c1 x2 x1) (by kernel_rfl) (hS.drew) ?_
  replace hB := hB.drew
  replace hS := hS.drew
  refine dt 0 18 (.func (.func 48) #[] #[]) (fun v hv _ => by kernel_rfl) hS <| dt 1 19 (.slice (some ⟨gb, 0, none⟩) n cap) (fun v hv _ => by kernel_rfl) hS <| dt 2 20 (.int .i64 ((m + 1 : Nat) : Int)) (fun v hv _ => by kernel_rfl) hS <| dt 3 21 (.pointer (some ⟨gb, 0 + (m + 1) * 1, none⟩)) (fun v hv _ => Zau 28 _ _ gb 0 (m + 1) n cap 1 23 rfl (by kernel_rfl) (by kernel_rfl) (by omega) Tryz.underlying28 (by kernel_rfl)) hS <| dt 4 22 (.slice a2 n2 c2) (fun v hv _ => Zah 23 _ _ _ _ rfl (by kernel_rfl) hv.cc Tryz.underlying23 rfl) hS <| dt 5 23 (.slice (some ⟨gb, 0, none⟩) n cap) (fun v hv _ => by kernel_rfl) hS <| dt 6 24 (.int .i64 ((m + 1 : Nat) : Int)) (fun v hv _ => by kernel_rfl) hS <| dt 7 25 (.int .i64 ((m : Nat) : Int)) (fun v hv _ => Zag (v := .int .i64 (IntKind.i64.wrap (((m + 1 : Nat) : Int) - 1))) (by kernel_rfl) (congrArg (Value.int .i64) (by rw [Zbc (by omega) (by omega)]; omega))) hS <| dt 8 26 (.pointer (some ⟨gb, 0 + m * 1, none⟩)) (fun v hv _ => Zau 28 _ _ gb 0 m n cap 1 23 rfl (by kernel_rfl) (by kernel_rfl) (by omega) Tryz.underlying28 (by kernel_rfl)) hS <| dt 9 27 (.slice a1 n1 c1) (fun v hv _ => Zah 23 _ _ _ _ rfl (by kernel_rfl) hv.cc' Tryz.underlying23 rfl) hS <| Zaf [10] (by kernel_rfl) (by simp) ?_
  refine Zat 10 28 48 #[.slice a2 n2 c2, .slice a1 n1 c1] rfl (fun _ => by kernel_rfl) (fun _ => by kernel_rfl) (R := fun u w' => u = .bool (decide (x2 = x1)) /\ Bl (v.drew) w') (Ze7 hS.sk hS.sk') (fun u w' h => hS.go h.2) ?_ Zam
  rintro _ u1 ⟨rfl, hb2⟩
  replace hB := hB.go hb2
  replace hS := hS.go hb2
  refine Zas (by kernel_rfl) <| Zab ?_
  by_cases hpq : x2 = x1
  ·skip
   rw [show (decide (x2 = x1)) = true from by simp [hpq]]
   refine Zak (fun _ => by kernel_rfl) <| Zac ?_
   obtain ⟨l2, hl2⟩ : ∃ l2, n = m + 1 + l2 := ⟨n - (m + 1), by omega⟩
   obtain ⟨e2, he2⟩ : ∃ e2, cap = m + 1 + e2 := ⟨cap - (m + 1), by omega⟩
   have hC := CI.start (hr.go hB) (Touch.of_below hB) hcur hsz hn hg hlt hd hp1 hp2 hpq
   clear hS
   refine Zaa <| rp 29 (.slice (some ⟨gb, 0, none⟩) n cap) <| rp 30 (.int .i64 ((m + 1 : Nat) : Int)) <| rv 31 (.slice (some ⟨gb, 0 + (m + 1) * 1, none⟩) l2 e2) (fun _ => Zkt _ _ gb 0 (m + 1) n cap l2 e2 rfl (by kernel_rfl) (by kernel_rfl) hl2 he2 (by omega)) <| rp 6 (.slice (some ⟨gb, 0 + (m + 1) * 1, none⟩) l2 e2) <| Zad <| Zab <| Zac <| Zac <| Zaa <| rp 7 (.int .i64 1) <| Zad ?_
   refine Zab <| Zar <| Zby (X := Nat × Nat × Array Value × List (Value × List Int)) (fun z => [(7, .int .i64 ((z.1 + 1 : Nat) : Int)), (5, .int .i64 ((z.2.1 : Nat) : Int)), (6, .slice (some ⟨gb, 0 + (m + 1) * 1, none⟩) l2 e2), (0, .slice (some ⟨gb, 0, none⟩) n cap), (1, .func (.func 48) #[] #[])]) (fun z v => CI K w gb n cap m ps z.1 z.2.1 z.2.2.1 z.2.2.2 v) (fun z => n - z.1) (0, m + 1, cur, ps.take (m + 1)) (by exact ⟨fun _ => by kernel_rfl, ⟨fun _ => by kernel_rfl, ⟨fun _ => by kernel_rfl, ⟨fun _ => by kernel_rfl, ⟨fun _ => by kernel_rfl, trivial⟩⟩⟩⟩⟩) hC ?_
   clear hC hB hpq hs1 hs2 hp1 hp2 hc1 hc2
   rintro ⟨m2, q, cu, qs⟩ v hC
   simp only at hC
   show CW _ _ _ _ _ _ _ [(7, .int .i64 ((m2 + 1 : Nat) : Int)), (5, .int .i64 ((q : Nat) : Int)), (6, .slice (some ⟨gb, 0 + (m + 1) * 1, none⟩) l2 e2), (0, .slice (some ⟨gb, 0, none⟩) n cap), (1, .func (.func 48) #[] #[])] _
   have hle2 := hC.le
   have hqm := hC.qm
   have hcs := hC.sz
   by_cases hl3 : m2 + 1 < l2
   ·skip
    obtain ⟨a3, n3, c3, x3, hp3, -, hs3⟩ := Zkd hcur hn hg (show m + m2 + 1 < n from by omega)
    obtain ⟨a4, n4, c4, x4, hp4, -, hs4⟩ := Zkd hcur hn hg (show m + m2 + 1 + 1 < n from by omega)
    have hc3 : cu[m + m2 + 1]? = some (.slice a3 n3 c3) := by rw [hC.rest _ (by omega) (by omega), hp3]; rfl
    have hc4 : cu[m + m2 + 1 + 1]? = some (.slice a4 n4 c4) := by rw [hC.rest _ (by omega) (by omega), hp4]; rfl
    have hS : Two K K v ⟨gb, 0 + (m + 1) * 1 + (m2 + 1) * 1, none⟩ ⟨gb, 0 + (m + 1) * 1 + m2 * 1, none⟩ a4 a3 n4 c4 n3 c3 x4 x3 := ⟨by rw [cell_of_row _ _ _ _ _ _ hC.r, show 0 + (m + 1) * 1 + (m2 + 1) * 1 = m + m2 + 1 + 1 from by omega]; exact hc4, hs4.tou hC.t hK, by rw [cell_of_row _ _ _ _ _ _ hC.r, show 0 + (m + 1) * 1 + m2 * 1 = m + m2 + 1 from by omega]; exact hc3, hs3.tou hC.t hK⟩
    refine Zac <| Zac <| Zaa <| rp 32 (.int .i64 ((m2 + 1 : Nat) : Int)) <| rp 33 (.slice (some ⟨gb, 0 + (m + 1) * 1, none⟩) l2 e2) <| rp 34 (.int .i64 l2) <| rv 35 (.bool true) (fun _ => Zag (v := .bool (decide (((m2 + 1 : Nat) : Int) < (l2 : Int)))) (by kernel_rfl) (congrArg Value.bool (decide_eq_true (by omega)))) <| Zad <| Zab <| Zak (fun _ => by kernel_rfl) <| Zan <| Zab ?_
    refine Zac <| Zar <| Zac <| Zaz (fun v => Two K K v ⟨gb, 0 + (m + 1) * 1 + (m2 + 1) * 1, none⟩ ⟨gb, 0 + (m + 1) * 1 + m2 * 1, none⟩ a4 a3 n4 c4 n3 c3 x4 x3) (by kernel_rfl) (hS.drew) ?_
    replace hC := hC.drew
    replace hS := hS.drew
    refine dt 0 38 (.func (.func 48) #[] #[]) (fun v hv _ => by kernel_rfl) hS <| dt 1 39 (.slice (some ⟨gb, 0 + (m + 1) * 1, none⟩) l2 e2) (fun v hv _ => by kernel_rfl) hS <| dt 2 40 (.int .i64 ((m2 + 1 : Nat) : Int)) (fun v hv _ => by kernel_rfl) hS <| dt 3 41 (.pointer (some ⟨gb, 0 + (m + 1) * 1 + (m2 + 1) * 1, none⟩)) (fun v hv _ => Zau 28 _ _ gb (0 + (m + 1) * 1) (m2 + 1) l2 e2 1 23 rfl (by kernel_rfl) (by kernel_rfl) (by omega) Tryz.underlying28 (by kernel_rfl)) hS <| dt 4 42 (.slice a4 n4 c4) (fun v hv _ => Zah 23 _ _ _ _ rfl (by kernel_rfl) hv.cc Tryz.underlying23 rfl) hS <| dt 5 43 (.slice (some ⟨gb, 0 + (m + 1) * 1, none⟩) l2 e2) (fun v hv _ => by kernel_rfl) hS <| dt 6 44 (.int .i64 ((m2 + 1 : Nat) : Int)) (fun v hv _ => by kernel_rfl) hS <| dt 7 45 (.int .i64 ((m2 : Nat) : Int)) (fun v hv _ => Zag (v := .int .i64 (IntKind.i64.wrap (((m2 + 1 : Nat) : Int) - 1))) (by kernel_rfl) (congrArg (Value.int .i64) (by rw [Zbc (by omega) (by omega)]; omega))) hS <| dt 8 46 (.pointer (some ⟨gb, 0 + (m + 1) * 1 + m2 * 1, none⟩)) (fun v hv _ => Zau 28 _ _ gb (0 + (m + 1) * 1) m2 l2 e2 1 23 rfl (by kernel_rfl) (by kernel_rfl) (by omega) Tryz.underlying28 (by kernel_rfl)) hS <| dt 9 47 (.slice a3 n3 c3) (fun v hv _ => Zah 23 _ _ _ _ rfl (by kernel_rfl) hv.cc' Tryz.underlying23 rfl) hS <| Zaf [10] (by kernel_rfl) (by simp) ?_
    refine Zat 10 48 48 #[.slice a4 n4 c4, .slice a3 n3 c3] rfl (fun _ => by kernel_rfl) (fun _ => by kernel_rfl) (R := fun u w' => u = .bool (decide (x4 = x3)) /\ Bl (v.drew) w') (Ze7 hS.sk hS.sk') (fun u w' h => hS.go h.2) ?_ Zam
    rintro _ u3 ⟨rfl, hb4⟩
    replace hC := hC.go hb4
    replace hS := hS.go hb4
    refine dt 11 49 (.bool (!(decide (x4 = x3)))) (fun v hv _ => by kernel_rfl) hS <| Zas (by kernel_rfl) <| Zab ?_
    by_cases hpz : x4 = x3
    ·skip
     rw [show (!(decide (x4 = x3))) = false from by simp [hpz]]
     refine Zai (fun _ => by kernel_rfl) <| Zan <| Za0 <| Zab <| Zaa <| rp 36 (.int .i64 ((m2 + 1 : Nat) : Int)) <| rv 37 (.int .i64 ((m2 + 1 + 1 : Nat) : Int)) (fun _ => Zag (v := .int .i64 (IntKind.i64.wrap (((m2 + 1 : Nat) : Int) + 1))) (by kernel_rfl) (congrArg (Value.int .i64) (by rw [Zbc (by omega) (by omega)]; omega))) <| rp 7 (.int .i64 ((m2 + 1 + 1 : Nat) : Int)) <| Zad ?_
     exact Za8 (E := fun z => [(7, .int .i64 ((z.1 + 1 : Nat) : Int)), (5, .int .i64 ((z.2.1 : Nat) : Int)), (6, .slice (some ⟨gb, 0 + (m + 1) * 1, none⟩) l2 e2), (0, .slice (some ⟨gb, 0, none⟩) n cap), (1, .func (.func 48) #[] #[])]) (R := fun z v => CI K w gb n cap m ps z.1 z.2.1 z.2.2.1 z.2.2.2 v) (μ := fun z => n - z.1) (x := (m2, q, cu, qs)) (m2 + 1, q, cu, qs) (by exact ⟨fun _ => by kernel_rfl, ⟨fun _ => by kernel_rfl, ⟨fun _ => by kernel_rfl, ⟨fun _ => by kernel_rfl, ⟨fun _ => by kernel_rfl, trivial⟩⟩⟩⟩⟩) (hC.keep hp3 hp4 (by omega) hpz) (by show n - (m2 + 1) < n - m2; omega)
    ·skip
     rw [show (!(decide (x4 = x3))) = true from by simp [hpz]]
     refine Zak (fun _ => by kernel_rfl) <| Zac <| Zaa <| rp 50 (.slice (some ⟨gb, 0, none⟩) n cap) <| rp 51 (.int .i64 ((q : Nat) : Int)) <| rp 52 (.slice (some ⟨gb, 0 + (m + 1) * 1, none⟩) l2 e2) <| rp 53 (.int .i64 ((m2 + 1 : Nat) : Int)) <| rv 54 (.pointer (some ⟨gb, 0 + (m + 1) * 1 + (m2 + 1) * 1, none⟩)) (fun _ => Zau 28 _ _ gb (0 + (m + 1) * 1) (m2 + 1) l2 e2 1 23 rfl (by kernel_rfl) (by kernel_rfl) (by omega) Tryz.underlying28 (by kernel_rfl)) <| rv 55 (.slice a4 n4 c4) (fun _ => Zah 23 _ _ _ _ rfl (by kernel_rfl) hS.cc Tryz.underlying23 rfl) <| rv 56 (.pointer (some ⟨gb, 0 + q * 1, none⟩)) (fun _ => Zau 28 _ _ gb 0 q n cap 1 23 rfl (by kernel_rfl) (by kernel_rfl) (by omega) Tryz.underlying28 (by kernel_rfl)) <| Ziz gb (0 + q * 1) (.slice a4 n4 c4) (fun _ => by kernel_rfl) (fun _ => Zbo 23 _ _ gb (0 + q * 1) _ _ _ hC.r rfl (by kernel_rfl) (by kernel_rfl) (by omega) rfl rfl (by kernel_rfl)) ?_
     intro w5 hset
     replace hset : Set1 u3 w5 gb q (.slice a4 n4 c4) := by rw [show 0 + q * 1 = q from by omega] at hset; exact hset
     replace hC := hC.move hp3 hp4 (by omega) (by omega) hpz ⟨_, _, _, rfl, hs4⟩ hset rfl
     clear hS
     refine Zad <| Zab <| Zaa <| rp 57 (.int .i64 ((q : Nat) : Int)) <| rv 58 (.int .i64 ((q + 1 : Nat) : Int)) (fun _ => Zag (v := .int .i64 (IntKind.i64.wrap (((q : Nat) : Int) + 1))) (by kernel_rfl) (congrArg (Value.int .i64) (by rw [Zbc (by omega) (by omega)]; omega))) <| rp 5 (.int .i64 ((q + 1 : Nat) : Int)) <| Zad <| Za0 <| Zab <| Zaa <| rp 36 (.int .i64 ((m2 + 1 : Nat) : Int)) <| rv 37 (.int .i64 ((m2 + 1 + 1 : Nat) : Int)) (fun _ => Zag (v := .int .i64 (IntKind.i64.wrap (((m2 + 1 : Nat) : Int) + 1))) (by kernel_rfl) (congrArg (Value.int .i64) (by rw [Zbc (by omega) (by omega)]; omega))) ?_
     refine rp 7 (.int .i64 ((m2 + 1 + 1 : Nat) : Int)) <| Zad ?_
     exact Za8 (E := fun z => [(7, .int .i64 ((z.1 + 1 : Nat) : Int)), (5, .int .i64 ((z.2.1 : Nat) : Int)), (6, .slice (some ⟨gb, 0 + (m + 1) * 1, none⟩) l2 e2), (0, .slice (some ⟨gb, 0, none⟩) n cap), (1, .func (.func 48) #[] #[])]) (R := fun z v => CI K w gb n cap m ps z.1 z.2.1 z.2.2.1 z.2.2.2 v) (μ := fun z => n - z.1) (x := (m2, q, cu, qs)) (m2 + 1, q + 1, cu.setIfInBounds q (.slice a4 n4 c4), qs ++ [(.slice a4 n4 c4, x4)]) (by exact ⟨fun _ => by kernel_rfl, ⟨fun _ => by kernel_rfl, ⟨fun _ => by kernel_rfl, ⟨fun _ => by kernel_rfl, ⟨fun _ => by kernel_rfl, trivial⟩⟩⟩⟩⟩) hC (by show n - (m2 + 1) < n - m2; omega)
   have hfin : m + 1 + (m2 + 1) = n := by omega
   refine Zac <| Zac <| Zaa <| rp 32 (.int .i64 ((m2 + 1 : Nat) : Int)) <| rp 33 (.slice (some ⟨gb, 0 + (m + 1) * 1, none⟩) l2 e2) <| rp 34 (.int .i64 l2) <| rv 35 (.bool false) (fun _ => Zag (v := .bool (decide (((m2 + 1 : Nat) : Int) < (l2 : Int)))) (by kernel_rfl) (congrArg Value.bool (decide_eq_false (by omega)))) <| Zad <| Zab <| Zai (fun _ => by kernel_rfl) <| Zbl <| Zal ?_
   refine Zal <| Zay <| Zab <| Zac ?_
   obtain ⟨l3, hl4⟩ : ∃ l3, n = q + l3 := ⟨n - q, by omega⟩
   obtain ⟨e3, he3⟩ : ∃ e3, cap = q + e3 := ⟨cap - q, by omega⟩
   refine Zaa <| rp 59 (.slice (some ⟨gb, 0, none⟩) n cap) <| rp 60 (.int .i64 ((q : Nat) : Int)) <| rv 61 (.slice (some ⟨gb, 0 + q * 1, none⟩) l3 e3) (fun _ => Zkt _ _ gb 0 q n cap l3 e3 rfl (by kernel_rfl) (by kernel_rfl) hl4 he3 (by omega)) ?_
   have hF := hC.done hn hfin hK (List.replicate l3 (.slice none 0 0))
   refine rw_n (.tuple #[]) (w' := World.setCells v gb (0 + q * 1) (List.replicate l3 (.slice none 0 0))) (fun _ => by kernel_rfl) (fun _ => Zt5 _ gb (0 + q * 1) l3 e3 _ rfl (by kernel_rfl) hC.r (by omega) (by omega)) ?_
   generalize World.setCells v gb (0 + q * 1) (List.replicate l3 (.slice none 0 0)) = wF at hF ⊢
   refine Zad <| Zab <| Zac <| Zaa <| rp 62 (.slice (some ⟨gb, 0, none⟩) n cap) <| rp 63 (.int .i64 ((q : Nat) : Int)) <| rv 64 (.slice (some ⟨gb, 0, none⟩) q cap) (fun _ => Zxp _ _ gb 0 q n cap rfl (by kernel_rfl) (by kernel_rfl) (by omega) (by omega)) <| rp 4 (.slice (some ⟨gb, 0, none⟩) q cap) <| Zad <| Zab <| Zap <| Za6 ?_
   refine Zaq <| Zaq <| Za6 <| Zaq ?_
   exact Zae (.slice (some ⟨gb, 0, none⟩) q cap) (fun _ => by kernel_rfl) ⟨_, rfl, q, rfl, hF.1, hF.2⟩
  ·skip
   rw [show (decide (x2 = x1)) = false from by simp [hpq]]
   refine Zai (fun _ => by kernel_rfl) <| Zan <| Za0 <| Zab <| Zaa <| rp 16 (.int .i64 ((m + 1 : Nat) : Int)) <| rv 17 (.int .i64 ((m + 1 + 1 : Nat) : Int)) (fun _ => Zag (v := .int .i64 (IntKind.i64.wrap (((m + 1 : Nat) : Int) + 1))) (by kernel_rfl) (congrArg (Value.int .i64) (by rw [Zbc (by omega) (by omega)]; omega))) <| rp 5 (.int .i64 ((m + 1 + 1 : Nat) : Int)) <| Zad ?_
   exact Za8 (E := fun m => [(5, .int .i64 ((m + 1 : Nat) : Int)), (0, .slice (some ⟨gb, 0, none⟩) n cap), (1, .func (.func 48) #[] #[])]) (R := fun m v => Bl w v /\ m + 1 <= n /\ dd ((ps.map Prod.snd).take (m + 1)) = (ps.map Prod.snd).take (m + 1)) (μ := fun m => n - m) (x := m) (m + 1) (by exact ⟨fun _ => by kernel_rfl, ⟨fun _ => by kernel_rfl, ⟨fun _ => by kernel_rfl, trivial⟩⟩⟩) ⟨hB, by omega, dd_go hp1 hp2 hd hpq⟩ (by show n - (m + 1) < n - m; omega)
 obtain rfl : m + 1 = n := by omega
 refine Zac <| Zac <| Zaa <| rp 12 (.int .i64 ((m + 1 : Nat) : Int)) <| rp 13 (.slice (some ⟨gb, 0, none⟩) (m + 1) cap) <| rp 14 (.int .i64 (m + 1)) <| rv 15 (.bool false) (fun _ => Zag (v := .bool (decide (((m + 1 : Nat) : Int) < (m + 1 : Int)))) (by kernel_rfl) (congrArg Value.bool (decide_eq_false (by omega)))) <| Zad <| Zab <| Zai (fun _ => by kernel_rfl) <| Zbl <| Zal ?_
 refine Zal <| Zay <| Zab <| Zac <| Zaa <| rp 65 (.slice (some ⟨gb, 0, none⟩) (m + 1) cap) <| rp 4 (.slice (some ⟨gb, 0, none⟩) (m + 1) cap) <| Zad <| Zab <| Zap ?_
 exact Zae (.slice (some ⟨gb, 0, none⟩) (m + 1) cap) (fun _ => by kernel_rfl) ⟨_, rfl, m + 1, rfl, (Zny hr hcur hn hg (by rw [<- hn, <- List.length_map (f := Prod.snd), List.take_length] at hd; exact hd)).go hB, Touch.of_below hB⟩
theorem Zmd {K : Nat -> Prop} {w : World} {gb n cap : Nat} {ps : List (Value × List Int)} {cur : Array Value} (hr : Rw gb w cur 23) (hcur : cur.toList.take n = ps.map Prod.fst) (hsz : cur.size = cap) (hn : ps.length = n) (hle : n <= cap) (hg : ∀ p ∈ ps, Gd K w p) (hK : ¬ K gb) (hb : n <= 8800000000002) :
  Calls Tryz.prog 47 #[.slice (some ⟨gb, 0, none⟩) n cap, .func (.func 48) #[] #[]] w fun e w' => ∃ u, e = .returned u /\ (fun u w' => ∃ k, u = .slice (some ⟨gb, 0, none⟩) k cap /\ Bt K w' (some ⟨gb, 0, none⟩) k (dd (ps.map Prod.snd)) /\ Touch gb w w') u w' := by
 by_cases h2 : n < 2
 ·exact Zjw hr hcur hsz hn hle hg hK hb h2
 ·exact Zmc hr hcur hsz hn hle hg hK hb h2
end Go.Proofs.YtefhepcplempkaaGreat
namespace Go.Proofs.YtefhepcplempkaaGreat
open Go.Shelf
def sortB_ren : Go.Shelf.Ren := ⟨fun | 6 => 45 | 15 => 74 | 14 => 73 | 28 => 107 | 29 => 108 | 20 => 99 | 21 => 100 | 22 => 101 | 23 => 102 | 24 => 103 | 25 => 104 | 26 => 105 | 27 => 106 | 46 => 135 | 47 => 136 | 48 => 137 | 49 => 138 | 50 => 139 | 57 => 151 | n => n, fun | 22 => 28 | 24 => 23 | 25 => 88 | 3 => 3 | 39 => 96 | 0 => 0 | 53 => 159 | 55 => 111 | 4 => 4 | 46 => 153 | 45 => 152 | 50 => 85 | 5 => 5 | 9 => 9 | 66 => 177 | 70 => 181 | 76 => 191 | 77 => 192 | n => n, fun | n => n⟩
theorem sortB : Go.Proofs.SlLaysF.n6 Tryz.prog sortB_ren := {
 mixed := by kernel_rfl
 f6 := ⟨Tryz.f45.name, by decide, Tryz.func45.trans (congrArg some (by kernel_rfl))⟩
 f14 := ⟨Tryz.f73.name, by decide, Tryz.func73.trans (congrArg some (by kernel_rfl))⟩
 f15 := Tryz.func74.trans (congrArg some (by kernel_rfl))
 f20 := ⟨Tryz.f99.name, by decide, Tryz.func99.trans (congrArg some (by kernel_rfl))⟩
 f21 := ⟨Tryz.f100.name, by decide, Tryz.func100.trans (congrArg some (by kernel_rfl))⟩
 f22 := ⟨Tryz.f101.name, by decide, Tryz.func101.trans (congrArg some (by kernel_rfl))⟩
 f23 := ⟨Tryz.f102.name, by decide, Tryz.func102.trans (congrArg some (by kernel_rfl))⟩
 f24 := ⟨Tryz.f103.name, by decide, Tryz.func103.trans (congrArg some (by kernel_rfl))⟩
 f25 := ⟨Tryz.f104.name, by decide, Tryz.func104.trans (congrArg some (by kernel_rfl))⟩
 f26 := ⟨Tryz.f105.name, by decide, Tryz.func105.trans (congrArg some (by kernel_rfl))⟩
 f27 := ⟨Tryz.f106.name, by decide, Tryz.func106.trans (congrArg some (by kernel_rfl))⟩
 f28 := Tryz.func107.trans (congrArg some (by kernel_rfl))
 f29 := Tryz.func108.trans (congrArg some (by kernel_rfl))
 f46 := ⟨Tryz.f135.name, by decide, Tryz.func135.trans (congrArg some (by kernel_rfl))⟩
 f47 := Tryz.func136.trans (congrArg some (by kernel_rfl))
 f48 := Tryz.func137.trans (congrArg some (by kernel_rfl))
 f49 := ⟨Tryz.f138.name, by decide, Tryz.func138.trans (congrArg some (by kernel_rfl))⟩
 f50 := ⟨Tryz.f139.name, by decide, Tryz.func139.trans (congrArg some (by kernel_rfl))⟩
 f57 := ⟨Tryz.f151.name, by decide, Tryz.func151.trans (congrArg some (by kernel_rfl))⟩
 t0 := Tryz.underlying0
 a0 := Tryz.isAgg0
 z0 := Tryz.sizeOf0
 v0 := Tryz.zeroValue0
 t3 := Tryz.underlying3
 a3 := Tryz.isAgg3
 z3 := Tryz.sizeOf3
 v3 := Tryz.zeroValue3
 t4 := Tryz.underlying4
 a4 := Tryz.isAgg4
 z4 := Tryz.sizeOf4
 v4 := Tryz.zeroValue4
 t5 := Tryz.underlying5
 a5 := Tryz.isAgg5
 z5 := Tryz.sizeOf5
 v5 := Tryz.zeroValue5
 t9 := Tryz.underlying9
 a9 := Tryz.isAgg9
 z9 := Tryz.sizeOf9
 v9 := Tryz.zeroValue9
 t22 := Tryz.underlying28
 a22 := Tryz.isAgg28
 z22 := Tryz.sizeOf28
 v22 := Tryz.zeroValue28
 a24 := Tryz.isAgg23
 z24 := Tryz.sizeOf23
 t25 := Tryz.underlying88
 a25 := Tryz.isAgg88
 z25 := Tryz.sizeOf88
 v25 := Tryz.zeroValue88
 t39 := Tryz.underlying96
 a39 := Tryz.isAgg96
 z39 := Tryz.sizeOf96
 v39 := Tryz.zeroValue96
 t45 := Tryz.underlying152
 a45 := Tryz.isAgg152
 z45 := Tryz.sizeOf152
 v45 := Tryz.zeroValue152
 t46 := Tryz.underlying153
 a46 := Tryz.isAgg153
 z46 := Tryz.sizeOf153
 v46 := Tryz.zeroValue153
 t50 := Tryz.underlying85
 a50 := Tryz.isAgg85
 z50 := Tryz.sizeOf85
 v50 := Tryz.zeroValue85
 t53 := Tryz.underlying159
 a53 := Tryz.isAgg159
 z53 := Tryz.sizeOf159
 v53 := Tryz.zeroValue159
 t55 := Tryz.underlying111
 a55 := Tryz.isAgg111
 z55 := Tryz.sizeOf111
 v55 := Tryz.zeroValue111
 t66 := Tryz.underlying177
 a66 := Tryz.isAgg177
 z66 := Tryz.sizeOf177
 v66 := Tryz.zeroValue177
 t70 := Tryz.underlying181
 a70 := Tryz.isAgg181
 z70 := Tryz.sizeOf181
 v70 := Tryz.zeroValue181
 t76 := Tryz.underlying191
 a76 := Tryz.isAgg191
 z76 := Tryz.sizeOf191
 v76 := Tryz.zeroValue191
 t77 := Tryz.underlying192
 a77 := Tryz.isAgg192
 z77 := Tryz.sizeOf192
 v77 := Tryz.zeroValue192 }
end Go.Proofs.YtefhepcplempkaaGreat
namespace Go.Proofs.YtefhepcplempkaaGreat
open Go.RowKit Go.Proofs
open Go.Sort (Holds putRow putCells)
open Ni (lessP Zez)
abbrev Gp (K : Nat -> Prop) (w : World) : Type := {p : Value × List Int // Gd K w p}
def encQ {K : Nat -> Prop} {w : World} (x : Gp K w) : Value := x.1.1
def ordQ {K : Nat -> Prop} {w : World} (x y : Gp K w) : Int := cmpP x.1.2 y.1.2
theorem Zja {K : Nat -> Prop} {w : World} (x y : Gp K w) : Go.Proofs.ltOf ordQ x y = lessP x.1.2 y.1.2 := Z0s _ _
theorem swoP (K : Nat -> Prop) (w : World) : Sort.SWO (Go.Proofs.ltOf (ordQ (K := K) (w := w))) := ⟨fun x => by rw [Zja]; exact Zbr _, fun x y z h1 h2 => by rw [Zja] at *; exact Zbq _ _ _ h1 h2, fun x y z h1 h2 => by
 rw [Zja] at *
 cases hq : lessP x.1.2 z.1.2 with
 | false => rfl
 | true =>
  by_cases e : x.1.2 = y.1.2
  ·rw [e] at hq; rw [hq] at h2; cases h2
  ·have h3 := Zey x.1.2 y.1.2 e h1
   have h4 := Zbq _ _ _ h3 hq
   rw [h4] at h2; cases h2⟩
theorem Zh1 (w : World) (b k : Nat) (f : Array Value -> Array Value) (h : k ≠ b) : (Sort.mapBlock w b f).heap[k]? = w.heap[k]? := by
 unfold Sort.mapBlock
 simp [Array.getElem?_modify, Ne.symm h]
theorem Zgw {α : Type} [Inhabited α] (enc : α -> Value) (w : World) (gb nn : Nat) (d : Array α) (os : Array Obj) : Touch gb w (sortWorld enc w gb 0 nn d os) := by
 refine ⟨rfl, rfl, rfl, ?_, fun k hk hne => ?_⟩
 ·simp [sortWorld, putRow, Sort.mapBlock, Sort.grow, Sort.ahead]
 ·show ((putRow enc (Sort.ahead w nn) gb 0 d).heap ++ os)[k]? = w.heap[k]?
  have hsz2 : (putRow enc (Sort.ahead w nn) gb 0 d).heap.size = w.heap.size := by simp [putRow, Sort.mapBlock, Sort.ahead]
  rw [Array.getElem?_append_left (by rw [hsz2]; exact hk)]
  exact Zh1 (Sort.ahead w nn) gb k _ hne
theorem Zp4 {α : Type} [Inhabited α] (enc : α -> Value) (w : World) (gb nn : Nat) (d : Array α) (os : Array Obj) {cur : Array Value} {T : TypeId} (h : Rw gb w cur T) : Rw gb (sortWorld enc w gb 0 nn d os) (putCells enc 0 d cur) T := by
 show ((putRow enc (Sort.ahead w nn) gb 0 d).heap ++ os)[gb]? = _
 have hsz2 : (putRow enc (Sort.ahead w nn) gb 0 d).heap.size = w.heap.size := by simp [putRow, Sort.mapBlock, Sort.ahead]
 rw [Array.getElem?_append_left (by rw [hsz2]; exact lt_of_get h)]
 unfold Rw at h
 have h' : (Sort.ahead w nn).heap[gb]? = some (.cells cur T (0, 0)) := h
 simp only [putRow, Sort.mapBlock, Array.getElem?_modify, h', Option.map_some, ↓reduceIte]
 rfl
theorem Zoa {K : Nat -> Prop} {w : World} {gb n cap : Nat} {ps : List (Value × List Int)} {cur : Array Value} (hr : Rw gb w cur 23) (hcur : cur.toList.take n = ps.map Prod.fst) (hsz : cur.size = cap) (hn : ps.length = n) (hle : n <= cap) (hg : ∀ p ∈ ps, Gd K w p) (hK : ¬ K gb) (h0 : 0 < n) (hb : n <= 8800000000002) :
  Calls Tryz.prog 45 #[.slice (some ⟨gb, 0, none⟩) n cap, .func (.func 46) #[] #[]] w fun e w' => ∃ u, e = .returned u /\ (fun u w' => u = .tuple #[] /\ (∃ (ps' : List (Value × List Int)) (cur' : Array Value), ps'.Perm ps /\ ps'.Pairwise (fun p q => lessP q.2 p.2 = false) /\ Rw gb w' cur' 23 /\ cur'.toList.take n = ps'.map Prod.fst /\ cur'.size = cap) /\ Touch gb w w') u w' := by
 obtain ⟨xs, hxs⟩ : ∃ xs : List (Gp K w), xs.map Subtype.val = ps := ⟨ps.pmap Subtype.mk hg, by simp [List.map_pmap]⟩
 have hxl : xs.length = n := by rw [<- hn, <- hxs, List.length_map]
 have x0 : Gp K w := xs[0]'(by omega)
 haveI : Inhabited (Gp K w) := ⟨x0⟩
 have hsx : xs.toArray.size = n := by simp [hxl]
 have hcell : ∀ j (hj : j < n), cur[j]? = some (encQ (xs[j]'(by omega))) := by
  intro j hj
  have := congrArg (fun l => l[j]?) hcur
  rw [<- hxs] at this
  simp only [List.getElem?_take_of_lt hj, List.map_map, List.getElem?_map, Array.getElem?_toList, List.getElem?_eq_getElem (show j < xs.length by omega), Option.map_some] at this
  exact this
 have hH : Holds encQ w gb 0 xs.toArray := by
  intro j hj
  rw [hsx] at hj
  refine ⟨?_, frozen_of_row _ _ _ _ _ hr⟩
  rw [cell_of_row _ _ _ _ _ _ hr, Nat.zero_add, hcell j hj]
  have : xs.toArray[j]! = xs[j]'(by omega) := by simp [hxl, hj]
  rw [this]
 have hcon := Go.Proofs.Any.slices_SortFunc sortB (encQ (K := K) (w := w)) (fun x => by
   obtain ⟨⟨v, b⟩, a, m, c, e, hs⟩ := x
   show v.oneCell' = true
   rw [show v = .slice a m c from e]; rfl) ordQ (swoP K w) 46 #[] gb 0 cap xs.toArray w (fun args w => by kernel_rfl)
  (fun mm os dk _ x y => by
   obtain ⟨⟨v, b⟩, a, m, c, e, hs⟩ := x
   obtain ⟨⟨v2, b2⟩, a2, m2, c2, e2, hs2⟩ := y
   have ht := Zgw (encQ (K := K) (w := w)) w gb mm dk os
   have h1 := Zu7 (hs.tou ht hK) (hs2.tou ht hK)
   have e : v = .slice a m c := e
   have e2 : v2 = .slice a2 m2 c2 := e2
   subst e e2
   refine (show Calls Tryz.prog 46 (#[.slice a m c, .slice a2 m2 c2] ++ #[]) _ _ from h1).mono ?_
   rintro e w' ⟨rfl, rfl⟩
   exact ⟨rfl, 0, #[], by simp [Sort.grow, World.drewN]⟩) hH (lt_of_get hr) (by rw [hsx]; omega)
 rw [hsx] at hcon
 refine (show Calls Tryz.prog 45 #[.slice (some ⟨gb, 0, none⟩) n cap, .func (.func 46) #[] #[]] w _ from hcon).mono ?_
 rintro e w' ⟨rfl, d', nn, os, hp, hs, rfl⟩
 have hps : d'.size = n := by rw [hp.1, hsx]
 refine ⟨_, rfl, rfl, ⟨d'.toList.map Subtype.val, putCells encQ 0 d' cur, ?_, ?_, Zp4 _ _ _ _ _ _ hr, ?_, ?_⟩, Zgw _ _ _ _ _ _⟩
 ·have := hp.2.2
  rw [show d'.extract 0 n = d' from by rw [<- hps]; simp, show xs.toArray.extract 0 n = xs.toArray from by rw [<- hsx]; simp] at this
  rw [<- hxs]
  exact this.map _
 ·rw [List.pairwise_map, List.pairwise_iff_getElem]
  intro i j hi hj hij
  simp at hi hj
  have h1 := hs i j (Nat.zero_le _) hij (by omega)
  rw [Zja] at h1
  simp only [hi, hj, getElem!_pos] at h1
  simpa using h1
 ·apply List.ext_getElem?
  intro j
  by_cases hj : j < n
  ·rw [List.getElem?_take_of_lt hj, Array.getElem?_toList]
   have hc : j < cur.size := by omega
   simp only [putCells, Array.getElem?_mapIdx, Array.getElem?_eq_getElem hc, Option.map_some, List.map_map, List.getElem?_map, Array.getElem?_toList]
   rw [if_pos ⟨Nat.zero_le _, by omega⟩, Nat.sub_zero, getElem!_pos d' j (by omega), Array.getElem?_eq_getElem (show j < d'.size by omega)]
   rfl
  ·rw [List.getElem?_eq_none (by simp; omega), List.getElem?_eq_none (by simp; omega)]
 ·simp [putCells, hsz]
end Go.Proofs.YtefhepcplempkaaGreat
namespace Go.Proofs.YtefhepcplempkaaGreat
open Go.RowKit
open Tr
open Ni (lessP)
def insB (b : List Int) : List (List Int) -> List (List Int)
 | [] => [b]
 | x :: r => if b = x then x :: r else if lessP b x then b :: x :: r else x :: insB b r
theorem Zjh (b y : List Int) : ∀ l : List (List Int), y ∈ insB b l ↔ y = b \/ y ∈ l
 | [] => by simp [insB]
 | x :: r => by
  have ih := Zjh b y r
  simp only [insB]
  by_cases h : b = x
  ·subst h; rw [if_pos rfl]; simp
  ·rw [if_neg h]
   by_cases k : lessP b x = true
   ·rw [if_pos k]; simp
   ·rw [if_neg k]; simp only [List.mem_cons, ih]; constructor
    ·rintro (q | q | q)
     ·exact .inr (.inl q)
     ·exact .inl q
     ·exact .inr (.inr q)
    ·rintro (q | q | q)
     ·exact .inr (.inl q)
     ·exact .inl q
     ·exact .inr (.inr q)
theorem Zmr (b : List Int) : ∀ l : List (List Int), SrtB l -> SrtB (insB b l)
 | [], _ => by simp [insB, SrtB]
 | x :: r, h => by
  obtain ⟨h1, h2⟩ := List.pairwise_cons.1 h
  simp only [insB]
  by_cases e : b = x
  ·rw [if_pos e]; exact h
  ·rw [if_neg e]
   by_cases k : lessP b x = true
   ·rw [if_pos k]
    refine List.pairwise_cons.2 ⟨fun y hy => ?_, h⟩
    rcases List.mem_cons.1 hy with q | q
    ·rw [q]; exact k
    ·exact Zbq _ _ _ k (h1 y q)
   ·rw [if_neg k]
    refine List.pairwise_cons.2 ⟨fun y hy => ?_, Zmr b r h2⟩
    rcases (Zjh b y r).1 hy with q | q
    ·rw [q]; exact Zey _ _ e (by simpa using k)
    ·exact h1 y q
def insAll (l : List (List Int)) (M : List (List Int)) : List (List Int) := M.foldl (fun l b => insB b l) l
theorem Zej : ∀ (M l : List (List Int)), SrtB l -> SrtB (insAll l M) /\ ∀ y, y ∈ insAll l M ↔ y ∈ l \/ y ∈ M
 | [], l, h => ⟨h, by simp [insAll]⟩
 | b :: M, l, h => by
  have ih := Zej M (insB b l) (Zmr b l h)
  refine ⟨ih.1, fun y => ?_⟩
  rw [show insAll l (b :: M) = insAll (insB b l) M from rfl, ih.2, Zjh, List.mem_cons]
  constructor
  ·rintro ((q | q) | q)
   ·exact .inr (.inl q)
   ·exact .inl q
   ·exact .inr (.inr q)
  ·rintro (q | q | q)
   ·exact .inl (.inr q)
   ·exact .inl (.inl q)
   ·exact .inr q
def nodesP (t : Tr) : List (List Int) := if t.isNo then [] else insAll [] (nmd t ++ [encT t])
theorem Zt7 {M N : List (List Int)} (hp : N.Perm M) (hs : N.Pairwise (fun p q => lessP q p = false)) : dd N = insAll [] M := by
 have h := Zej M [] (by simp [SrtB])
 refine Zj8 _ _ (Z0n _ hs) h.1 fun x => ?_
 rw [Zz5, h.2, hp.mem_iff]
 simp
theorem Zq8 {X : Nat -> Prop} {w0 w : World} {gW base : Nat} {vN : Value} {ns : List (List Int)} (hW : Wt w gW base vN X ns) {gL : Nat} {a : Option Addr} {n c : Nat} {b : List Int} (hs : Sk (KW gW vN X) w a n c b) (hL : Rw gL w #[.slice a n c] 23) (hlen : ns.length + 1 <= 8800000000000) (hB : Bl w0 w) (hb0 : w0.heap.size <= base) :
  ∃ (gb cap : Nat) (cur : Array Value) (ps : List (Value × List Int)) (w' : World), (∀ ty, (Builtin.append_ #[28, 28] ty #[vN, .slice (some ⟨gL, 0, none⟩) 1 1]).run Tryz.prog w = .ok (.slice (some ⟨gb, 0, none⟩) (ns.length + 1) cap) w') /\ Rw gb w' cur 23 /\ cur.toList.take (ns.length + 1) = ps.map Prod.fst /\ cur.size = cap /\ ps.length = ns.length + 1 /\ ns.length + 1 <= cap /\ (∀ p ∈ ps, Gd (fun b => b ≠ gb /\ X b) w' p) /\ ps.map Prod.snd = ns ++ [b] /\ w0.heap.size <= gb /\ Bl w0 w' := by
 obtain ⟨i, hi, hz, hsz, hby⟩ := Zul
 have hlt := hW.lt
 have hbw := hW.b
 obtain ⟨vals, hown, hvl, hvs⟩ := hW.o
 obtain ⟨v', w', h1, h2, h3, h4, h5⟩ := Zeo w base 28 0 23 i (.slice none 0 0) 1 24 Tryz.underlying28 hi hz hsz hby rfl (by decide) vN ns.length vals hown ⟨gL, 0, none⟩ 1 1 [.slice a n c] rfl (fun j u hu => by
   cases j with
   | zero => rw [Za1, cell_of_row _ _ _ _ _ _ hL]; exact hu
   | succ j => simp at hu) (fun u hu => by rw [List.mem_singleton.1 hu]; rfl) (by decide) (by unfold maxLen; omega) (by omega) (by omega)
 obtain ⟨hvl2, ho⟩ := h2
 rcases ho with ⟨e, hn⟩ | ⟨gb, cap, cur, rfl, hgb, hg, hc1, hc2, hc3, hc4⟩
 ·omega
 have hown0 : ∀ k, vN.ownBlock = some k -> w0.heap.size <= k := by
  intro k hk
  rcases hown.2 with ⟨rfl, _⟩ | ⟨g', cap', cur', rfl, hg', _⟩
  ·cases hk
  ·have e : g' = k := by simpa [Value.ownBlock] using hk
   omega
 have hgo : ∀ {a' : Option Addr} {m' c' : Nat} {x : List Int}, Sk (KW gW vN X) w a' m' c' x -> Sk (fun b => b ≠ gb /\ X b) w' a' m' c' x := by
  intro a' m' c' x hx
  refine ⟨⟨?_, hx.ag.nil, hx.ag.l, hx.ag.b⟩, fun y hy hn => ?_⟩
  ·rcases hx.ag.i with q | ⟨g', off, q1, q2, q3, q4, q5, q7⟩
   ·exact .inl q
   ·refine .inr ⟨g', off, q1, q2, q3, q4, q5, fun j hj => ?_⟩
    rw [<- q7 j hj]
    have hk := hx.k _ q1 q3
    exact World.cell?_of_block (h3.block g' (block_lt_of_cell (q7 j hj)) (fun e => hk.2.1 e.symm))
  ·have hk := hx.k y hy hn
   refine ⟨?_, hk.2.2⟩
   intro e
   rcases h5 with q | q
   ·exact hk.2.1 (by rw [<- q, e]; rfl)
   ·have h6 := hx.old hy hn
    have h7 : gb = w.heap.size := by simpa [Value.ownBlock] using q
    omega
 have hz2 : ∀ p ∈ (vals ++ [Value.slice a n c]).zip (ns ++ [b]), Gd (fun b => b ≠ gb /\ X b) w' p := by
  intro p hp
  obtain ⟨j, hj, e⟩ := List.mem_iff_getElem.1 hp
  rw [List.getElem_zip] at e
  subst e
  simp only [List.length_zip, List.length_append, List.length_singleton] at hj
  by_cases hjl : j < vals.length
  ·obtain ⟨a1, n1, c1, e1, hs1⟩ := hvs j vals[j] (List.getElem?_eq_getElem hjl)
   refine ⟨a1, n1, c1, ?_, ?_⟩
   ·show (vals ++ [Value.slice a n c])[j] = _
    rw [List.getElem_append_left hjl]; exact e1
   ·show Sk _ _ _ _ _ ((ns ++ [b])[j]'(by simp; omega))
    rw [List.getElem_append_left (by omega)]
    have : ns.getD j [] = ns[j]'(by omega) := by simp [List.getD, show j < ns.length by omega]
    rw [<- this]
    exact hgo hs1
  ·obtain rfl : j = vals.length := by omega
   refine ⟨a, n, c, ?_, ?_⟩
   ·show (vals ++ [Value.slice a n c])[vals.length] = _
    simp
   ·show Sk _ _ _ _ _ ((ns ++ [b])[vals.length]'(by simp; omega))
    have : (ns ++ [b])[vals.length]'(by simp; omega) = b := by simp [hvl]
    rw [this]
    exact hgo hs
 have hll : (vals ++ [Value.slice a n c]).length = (ns ++ [b]).length := by simp [hvl]
 refine ⟨gb, cap, cur, (vals ++ [Value.slice a n c]).zip (ns ++ [b]), w', fun ty => h1, hg, ?_, by rw [hc3, Nat.mul_one], by simp [hvl], hc1, hz2, ?_, ?_, ?_⟩
 ·rw [List.map_fst_zip (by omega), <- hc4, Nat.mul_one]
 ·rw [List.map_snd_zip (by omega)]
 ·omega
 ·exact Below.trans hB ⟨h3.os, h3.tape, h3.output, h3.size, fun k hk => h3.block k (Nat.lt_of_lt_of_le hk hB.size) (fun e => by have := hown0 k e.symm; omega)⟩
theorem Wt.newX {w w' : World} {gW : Nat} (X : Nat -> Prop) (h : New w w' gW #[.slice none 0 0] 80) : Wt w' gW gW (.slice none 0 0) X [] := ⟨h.row, ⟨[], ⟨rfl, .inl ⟨rfl, rfl⟩⟩, rfl, fun j v hj => by simp at hj⟩, Nat.le_refl _⟩
def RNo (w : World) (t : Tr) : Value -> World -> Prop := fun u w' => (∃ a n c, u = .slice a n c /\ Bt (fun b => w.heap.size <= b /\ ∀ x, a = some x -> b ≠ x.block) w' a n (nodesP t) /\ (∀ x, a = some x -> w.heap.size <= x.block) /\ n <= 8800000000000) /\ Bl w w'
theorem Zxt {w w' : World} {v u r : Value} {ρ : Operand -> Value} {o : Oper} (hr : ∀ ty, (Builtin.append_ #[28, 28] ty #[v, u]).run Tryz.prog w = .ok r w') (x y : Operand) (ho : o.op = .call { callee := .builtin .append, args := #[x, y], argTypes := #[28, 28] }) (hx : ρ x = v) (hy : ρ y = u) : (execOp ρ o).run Tryz.prog w = .ok (.value r) w' := by
 unfold execOp
 simp only [ho, resolve, invoke, builtin, Sem.run_bind, Sem.run_pure, Result.andThen_ok, List.map_toArray, List.map_cons, List.map_nil, hx, hy, hr]
theorem Bt.mono {K K' : Nat -> Prop} {w : World} {a : Option Addr} {n : Nat} {M : List (List Int)} (h : Bt K w a n M) (hK : ∀ b, K b -> K' b) : Bt K' w a n M := ⟨h.len, fun j hj => by
 obtain ⟨g, off, a', n', c', h1, h2, h3⟩ := h.row j hj
 exact ⟨g, off, a', n', c', h1, h2, h3.mono hK⟩⟩
set_option maxHeartbeats 1000000 in
theorem Zt6 {w : World} {g : Nat} (hr : Rw g w #[.nilIface] 76) :
  Calls Tryz.prog 20 #[.pointer (some ⟨g, 0, none⟩)] w fun e w' => ∃ u, e = .returned u /\ RNo w no u w' := by
 have hB := Bl.refl w
 refine Zaj Tryz.func20 rfl 25 rfl ?_
 show CW _ _ _ _ _ _ _ [(0, .pointer (some ⟨g, 0, none⟩))] _
 refine Zac <| Zaa <| rp 2 (.slice none 0 0) <| Zad <| Zab <| Zac <| Zac <| Zaa <| rp 6 (.pointer (some ⟨g, 0, none⟩)) <| rp 7 (.pointer (some ⟨g, 0, none⟩)) <| rp 8 (.pointer (some ⟨g, 0, none⟩)) <| rv 9 (.nilIface) (fun _ => Zah 74 _ ⟨g, 0, none⟩ _ _ rfl (by kernel_rfl) (by rw [cell_of_row _ _ _ _ _ _ hr]; rfl) Tryz.underlying74 rfl) ?_
 refine rp 10 (.bool true) <| Zad <| Zab <| Zak (fun _ => by kernel_rfl) <| Zac <| Zaa <| rp 2 (.slice none 0 0) <| Zad <| Zab <| Zap <| Zaq ?_
 exact Zae (.slice none 0 0) (fun _ => by kernel_rfl) ⟨_, rfl, ⟨none, 0, 0, rfl, ⟨rfl, fun j hj => by omega⟩, (fun x hx => by cases hx), by omega⟩, hB⟩
set_option maxHeartbeats 4000000 in
theorem Zqw {K : Nat -> Prop} {w : World} {g : Nat} {t : Tr} {T0 : TypeId} {v0 : Value} (hr : Rw g w #[.iface T0 v0] 76) (ht : TA K w t (.iface T0 v0)) (hO : Tr.Ok 64 t) (hne : t ≠ no) (hM : (nmd t).length + 1 <= 8800000000000) :
  Calls Tryz.prog 20 #[.pointer (some ⟨g, 0, none⟩)] w fun e w' => ∃ u, e = .returned u /\ RNo w t u w' := by
 have hB := Bl.refl w
 replace ht := ht.old
 refine Zaj Tryz.func20 rfl 25 rfl ?_
 show CW _ _ _ _ _ _ _ [(0, .pointer (some ⟨g, 0, none⟩))] _
 refine Zac <| Zaa <| rp 2 (.slice none 0 0) <| Zad <| Zab <| Zac <| Zac <| Zaa <| rp 6 (.pointer (some ⟨g, 0, none⟩)) <| rp 7 (.pointer (some ⟨g, 0, none⟩)) <| rp 8 (.pointer (some ⟨g, 0, none⟩)) <| rv 9 (.iface T0 v0) (fun _ => Zah 74 _ ⟨g, 0, none⟩ _ _ rfl (by kernel_rfl) (by rw [cell_of_row _ _ _ _ _ _ hr]; rfl) Tryz.underlying74 rfl) ?_
 refine rp 10 (.bool false) <| Zad <| Zab <| Zai (fun _ => by kernel_rfl) <| Zan <| Zab <| Zac <| Zaa <| Zax 3 #[.slice none 0 0] 80 (fun _ => by kernel_rfl) (fun _ => by kernel_rfl) ?_
 intro wW gW hnW
 have hzW := hB.size
 replace hB := hB.go hnW.below
 replace hr := hr.go hnW.below
 replace ht := ht.go hnW.below
 have hgW := hnW.hg
 have hWt := Wt.newX (fun b => w.heap.size <= b) hnW
 have hBW := hB
 refine Zad <| Zab <| Zac <| Zaa <| rp 11 (.pointer (some ⟨g, 0, none⟩)) <| rp 12 (.pointer (some ⟨g, 0, none⟩)) <| rp 13 (.pointer (some ⟨g, 0, none⟩)) <| rv 14 (.iface T0 v0) (fun _ => Zah 74 _ ⟨g, 0, none⟩ _ _ rfl (by kernel_rfl) (by rw [cell_of_row _ _ _ _ _ _ hr]; rfl) Tryz.underlying74 rfl) <| Zao 15 40 #[.pointer (some ⟨gW, 0, none⟩), .iface T0 v0] (fun _ => by kernel_rfl) (fun _ => by kernel_rfl) (R := REn wW gW gW (.slice none 0 0) (fun b => w.heap.size <= b) [] t) (Zl0 hne (Zq4 t hO (by omega)) (ht.mono (K' := KW gW (.slice none 0 0) (fun _ => True)) (fun b hb => ⟨by omega, by simp [Value.ownBlock], trivial⟩)) hWt (fun b hb => Nat.le_trans hBW.size hb) (by have h7 := hM; simp at h7 ⊢; omega)) ?_
 rintro _ u1 ⟨a2, n2, c2, vM, rfl, hs2, hW1, hG, hen⟩
 replace hB := hG.below hB (by omega) rfl
 clear hr ht hWt
 rw [List.nil_append] at hW1
 replace hs2 : Sk (KW gW vM (fun b => w.heap.size <= b)) u1 a2 n2 c2 (encT t) := hs2.mono (fun b hb => ⟨hb.1, hb.2.1, Nat.le_trans hBW.size hb.2.2⟩)
 refine rp 4 (.slice a2 n2 c2) <| Zad <| Zab <| Zac <| Zaa <| rp 16 (.pointer (some ⟨gW, 0, none⟩)) <| rv 17 (vM) (fun _ => Zah 28 _ ⟨gW, 0, none⟩ _ _ rfl (by kernel_rfl) (by rw [cell_of_row _ _ _ _ _ _ hW1.r]; rfl) Tryz.underlying28 rfl) <| rp 18 (.slice a2 n2 c2) <| Zbi 19 #[.slice a2 n2 c2] 23 1 (fun _ => by kernel_rfl) (fun _ => by kernel_rfl) ?_
 intro wL gL hnL
 replace hB := hB.go hnL.below
 replace hs2 := hs2.go hnL.below
 replace hW1 := hW1.go hnL.below
 have hL : Rw gL wL #[.slice a2 n2 c2] 23 := hnL.row
 obtain ⟨gb, cap, cur, ps, wA, hrun, hrA, hcA, hszA, hlA, hleA, hgA, hsnd, hgb, hBA⟩ := Zq8 hW1 hs2 hL hM hB (by omega)
 refine rw_v 20 (.slice (some ⟨gb, 0, none⟩) ((nmd t).length + 1) cap) (fun _ => by kernel_rfl) (fun _ => Zxt hrun _ _ rfl (by kernel_rfl) (by kernel_rfl)) ?_
 clear hB hs2 hW1 hL
 refine rp 5 (.slice (some ⟨gb, 0, none⟩) ((nmd t).length + 1) cap) <| Zad <| Zab <| Zac <| Zaa <| rp 21 (.slice (some ⟨gb, 0, none⟩) ((nmd t).length + 1) cap) <| Zao 22 45 #[.slice (some ⟨gb, 0, none⟩) ((nmd t).length + 1) cap, .func (.func 46) #[] #[]] (fun _ => by kernel_rfl) (fun _ => by kernel_rfl) (R := fun u w' => u = .tuple #[] /\ (∃ (ps' : List (Value × List Int)) (cur' : Array Value), ps'.Perm ps /\ ps'.Pairwise (fun p q => lessP q.2 p.2 = false) /\ Rw gb w' cur' 23 /\ cur'.toList.take ((nmd t).length + 1) = ps'.map Prod.fst /\ cur'.size = cap) /\ Touch gb wA w') (Zoa hrA hcA hszA hlA hleA hgA (fun h => h.1 rfl) (by omega) (by omega)) ?_
 rintro _ u2 ⟨rfl, ⟨ps', cur', hperm, hpair, hrS, hcS, hszS⟩, hto⟩
 have hgS : ∀ p ∈ ps', Gd (fun b => b ≠ gb /\ w.heap.size <= b) u2 p := fun p hp => (hgA p (hperm.mem_iff.1 hp)).tou hto (fun h => h.1 rfl)
 have hBS : Bl w u2 := hto.below hBA hgb hBA.size
 refine Zad <| Zab <| Zac <| Zaa <| rp 23 (.slice (some ⟨gb, 0, none⟩) ((nmd t).length + 1) cap) <| Zao 24 47 #[.slice (some ⟨gb, 0, none⟩) ((nmd t).length + 1) cap, .func (.func 48) #[] #[]] (fun _ => by kernel_rfl) (fun _ => by kernel_rfl) (R := fun u w' => ∃ k, u = .slice (some ⟨gb, 0, none⟩) k cap /\ Bt (fun b => b ≠ gb /\ w.heap.size <= b) w' (some ⟨gb, 0, none⟩) k (dd (ps'.map Prod.snd)) /\ Touch gb u2 w') (Zmd hrS hcS hszS (by rw [hperm.length_eq, hlA]) hleA hgS (fun h => h.1 rfl) (by omega)) ?_
 rintro _ u3 ⟨k3, rfl, hbt, hto3⟩
 have hB3 : Bl w u3 := hto3.below hBS hgb hBS.size
 refine rp 2 (.slice (some ⟨gb, 0, none⟩) k3 cap) <| Zad <| Zab <| Zap ?_
 have hM2 : dd (ps'.map Prod.snd) = nodesP t := by
  rw [Zt7 (M := nmd t ++ [encT t]) (by rw [<- hsnd]; exact hperm.map _) (List.pairwise_map.2 hpair)]; unfold nodesP; rw [if_neg (fun e => hne (isNo_iff.1 e))]
 have hk3 : k3 <= (nmd t).length + 1 := by rw [<- hbt.len]; refine Nat.le_trans (Z0q _) ?_; rw [List.length_map, hperm.length_eq, hlA]; exact Nat.le_refl _
 rw [hM2] at hbt
 exact Zae (.slice (some ⟨gb, 0, none⟩) k3 cap) (fun _ => by kernel_rfl) ⟨_, rfl, ⟨_, _, _, rfl, hbt.mono (fun b hb => ⟨hb.2, fun x hx => by cases hx; exact hb.1⟩), (fun x hx => by cases hx; exact hgb), by omega⟩, hB3⟩
theorem Zqx {K : Nat -> Prop} {w : World} {g : Nat} {t : Tr} (h : Tri K w g t) (hM : (nmd t).length + 1 <= 8800000000000) :
  Calls Tryz.prog 20 #[.pointer (some ⟨g, 0, none⟩)] w fun e w' => ∃ u, e = .returned u /\ RNo w t u w' := by
 obtain ⟨⟨v, h1, h2⟩, h3⟩ := h
 rcases h3 with rfl | hO
 ·rw [show v = .nilIface from h2] at h1
  exact Zt6 h1
 ·have hne := hO.ne
  obtain ⟨T0, v0, rfl⟩ := h2.iface hne
  exact Zqw h1 h2 hO hne hM
end Go.Proofs.YtefhepcplempkaaGreat
namespace Go.Proofs.YtefhepcplempkaaGreat
open Go.RowKit
open Tr
open Di (dref)
def NoC (A : List (List Int)) : Prop := ∀ x ∈ A, ∀ y ∈ A, dref x = dref y -> x = y
def Nmd (A : List (List Int)) (r : PR) (t : Tr) : Prop := (r.k = 1 /\ r.i = encT t) \/ (r.k = 2 /\ r.d = dref (encT t) /\ encT t ∈ A)
end Go.Proofs.YtefhepcplempkaaGreat

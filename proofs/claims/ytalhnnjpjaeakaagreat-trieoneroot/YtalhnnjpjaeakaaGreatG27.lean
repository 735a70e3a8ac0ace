/- A row of byte strings is rid of its doubles. -/
import Derived.Test.YtalhnnjpjaeakaaGreatG26
import Derived.Test.YtalhnnjpjaeakaaGreatG01
import Derived.Shelf.SlSortCmp.Whole1
import Derived.Ground.SlsfProg
import Derived.Test.YtalhnnjpjaeakaaGreatProg
import Derived.Test.YtalhnnjpjaeakaaGreatG25
namespace Go.Proofs.YtalhnnjpjaeakaaGreat
open Go.RowKit
set_option linter.unusedVariables false
set_option maxRecDepth 100000
theorem row_at {K : Nat → Prop} {w : World} {n : Nat} {ps : List (Value × List Int)} {cur : Array Value} (hcur : cur.toList.take n = ps.map Prod.fst) (hn : ps.length = n) (hg : ∀ p ∈ ps, Gd K w p) {j : Nat} (hj : j < n) : ∃ a m c x, ps[j]? = some (.slice a m c, x) ∧ cur[j]? = some (.slice a m c) ∧ Sk K w a m c x := by
  have hjp : j < ps.length := by omega
  obtain ⟨a, m, c, h1, h2⟩ := hg ps[j] (List.getElem_mem hjp)
  refine ⟨a, m, c, ps[j].2, ?_, ?_, h2⟩
  · rw [List.getElem?_eq_getElem hjp, ← h1]
  · have := congrArg (fun l => l[j]?) hcur
    simp only [List.getElem?_take_of_lt hj, List.getElem?_map, List.getElem?_eq_getElem hjp, Option.map_some, Array.getElem?_toList] at this
    rw [this, h1]
theorem dd_one (M : List (List Int)) (h : 0 < M.length) : dd (M.take (0 + 1)) = M.take (0 + 1) := by
  cases M with
  | nil => rfl
  | cons x M => simp [dd, ddg]
theorem dd_short (M : List (List Int)) (h : M.length < 2) : dd M = M := by
  match M, h with
  | [], _ => rfl
  | [x], _ => rfl
theorem dd_go {ps : List (Value × List Int)} {m : Nat} {p p' : Value × List Int} (h1 : ps[m]? = some p) (h2 : ps[m + 1]? = some p') (hd : dd ((ps.map Prod.snd).take (m + 1)) = (ps.map Prod.snd).take (m + 1)) (he : ¬ p'.2 = p.2) : dd ((ps.map Prod.snd).take (m + 1 + 1)) = (ps.map Prod.snd).take (m + 1 + 1) := by
  have hM1 : (ps.map Prod.snd)[m]? = some p.2 := by rw [List.getElem?_map, h1]; rfl
  have hM2 : (ps.map Prod.snd)[m + 1]? = some p'.2 := by rw [List.getElem?_map, h2]; rfl
  rw [dd_next hM1 hM2, if_neg he, hd, List.take_add_one (i := m + 1), hM2]; rfl
theorem bt_whole {K : Nat → Prop} {w : World} {gb n : Nat} {ps : List (Value × List Int)} {cur : Array Value} (hr : Rw gb w cur 27) (hcur : cur.toList.take n = ps.map Prod.fst) (hn : ps.length = n) (hg : ∀ p ∈ ps, Gd K w p) (hd : dd (ps.map Prod.snd) = ps.map Prod.snd) : Bt K w (some ⟨gb, 0, none⟩) n (dd (ps.map Prod.snd)) := by
  rw [hd]
  refine ⟨by simp [hn], fun j hj => ?_⟩
  obtain ⟨a, m, c, x, h1, h2, h3⟩ := row_at hcur hn hg hj
  refine ⟨gb, 0, a, m, c, rfl, ?_, ?_⟩
  · rw [cell_of_row _ _ _ _ _ _ hr, show 0 + j * 1 = j from by omega]; exact h2
  · rw [List.getD, List.getElem?_map, h1]; exact h3
set_option maxHeartbeats 1000000 in
theorem compact_small {K : Nat → Prop} {w : World} {gb n cap : Nat} {ps : List (Value × List Int)} {cur : Array Value} (hr : Rw gb w cur 27) (hcur : cur.toList.take n = ps.map Prod.fst) (hsz : cur.size = cap) (hn : ps.length = n) (hle : n ≤ cap) (hg : ∀ p ∈ ps, Gd K w p) (hK : ¬ K gb) (hb : n ≤ 7600000000002) (h2 : n < 2) :
    Calls Tryz.prog 43 #[.slice (some ⟨gb, 0, none⟩) n cap, .func (.func 44) #[] #[]] w fun e w' => ∃ u, e = .returned u ∧ (fun u w' => ∃ k, u = .slice (some ⟨gb, 0, none⟩) k cap ∧ Bt K w' (some ⟨gb, 0, none⟩) k (dd (ps.map Prod.snd)) ∧ Touch gb w w') u w' := by
  have hB := Bl.refl w
  refine cw_enter Tryz.func43 rfl 66 rfl ?_
  show CW _ _ _ _ _ _ _ [(0, .slice (some ⟨gb, 0, none⟩) n cap), (1, .func (.func 44) #[] #[])] _
  refine cw_seq ?_
  refine cw_region ?_
  refine rp 4 (.slice none 0 0) ?_
  refine rw_nil ?_
  refine nw_then ?_
  refine cw_seq ?_
  refine cw_seq ?_
  refine cw_region ?_
  refine rp 8 (.slice (some ⟨gb, 0, none⟩) n cap) ?_
  refine rp 9 (.int .i64 n) ?_
  refine rv 10 (.bool true) (fun _ => ol_conv (v := .bool (decide ((n : Int) < (2 : Int)))) (by kernel_rfl) (congrArg Value.bool (decide_eq_true (by omega)))) ?_
  refine rw_nil ?_
  refine nw_then ?_
  refine cw_cond_t (fun _ => by kernel_rfl) ?_
  refine cw_seq ?_
  refine cw_region ?_
  refine rp 11 (.slice (some ⟨gb, 0, none⟩) n cap) ?_
  refine rp 4 (.slice (some ⟨gb, 0, none⟩) n cap) ?_
  refine rw_nil ?_
  refine nw_then ?_
  refine cw_ret ?_
  refine nw_ret_then ?_
  exact nw_ret_body (.slice (some ⟨gb, 0, none⟩) n cap) (fun _ => by kernel_rfl) ⟨_, rfl, n, rfl, bt_whole hr hcur hn hg (dd_short _ (by simp; omega)), Touch.refl _ _⟩
set_option maxHeartbeats 4000000 in
theorem compact_big {K : Nat → Prop} {w : World} {gb n cap : Nat} {ps : List (Value × List Int)} {cur : Array Value} (hr : Rw gb w cur 27) (hcur : cur.toList.take n = ps.map Prod.fst) (hsz : cur.size = cap) (hn : ps.length = n) (hle : n ≤ cap) (hg : ∀ p ∈ ps, Gd K w p) (hK : ¬ K gb) (hb : n ≤ 7600000000002) (h2 : ¬ n < 2) :
    Calls Tryz.prog 43 #[.slice (some ⟨gb, 0, none⟩) n cap, .func (.func 44) #[] #[]] w fun e w' => ∃ u, e = .returned u ∧ (fun u w' => ∃ k, u = .slice (some ⟨gb, 0, none⟩) k cap ∧ Bt K w' (some ⟨gb, 0, none⟩) k (dd (ps.map Prod.snd)) ∧ Touch gb w w') u w' := by
  have hB := Bl.refl w
  refine cw_enter Tryz.func43 rfl 66 rfl ?_
  show CW _ _ _ _ _ _ _ [(0, .slice (some ⟨gb, 0, none⟩) n cap), (1, .func (.func 44) #[] #[])] _
  refine cw_seq ?_
  refine cw_region ?_
  refine rp 4 (.slice none 0 0) ?_
  refine rw_nil ?_
  refine nw_then ?_
  refine cw_seq ?_
  refine cw_seq ?_
  refine cw_region ?_
  refine rp 8 (.slice (some ⟨gb, 0, none⟩) n cap) ?_
  refine rp 9 (.int .i64 n) ?_
  refine rv 10 (.bool false) (fun _ => ol_conv (v := .bool (decide ((n : Int) < (2 : Int)))) (by kernel_rfl) (congrArg Value.bool (decide_eq_false (by omega)))) ?_
  refine rw_nil ?_
  refine nw_then ?_
  refine cw_cond_f (fun _ => by kernel_rfl) ?_
  refine cw_skip ?_
  refine nw_then ?_
  refine cw_seq ?_
  refine cw_seq ?_
  refine cw_region ?_
  refine rp 5 (.int .i64 1) ?_
  refine rw_nil ?_
  refine nw_then ?_
  refine cw_block ?_
  refine cw_loop (X := Nat) (fun m => [(5, .int .i64 ((m + 1 : Nat) : Int)), (0, .slice (some ⟨gb, 0, none⟩) n cap), (1, .func (.func 44) #[] #[])]) (fun m v => Bl w v ∧ m + 1 ≤ n ∧ dd ((ps.map Prod.snd).take (m + 1)) = (ps.map Prod.snd).take (m + 1)) (fun m => n - m) 0 (by exact ⟨fun _ => by kernel_rfl, ⟨fun _ => by kernel_rfl, ⟨fun _ => by kernel_rfl, trivial⟩⟩⟩) ⟨hB, by omega, dd_one _ (by simp; omega)⟩ ?_
  clear hB
  rintro m v ⟨hB, hm, hd⟩
  by_cases hlt : m + 1 < n
  · skip
    obtain ⟨a1, n1, c1, x1, hp1, hc1, hs1⟩ := row_at hcur hn hg (show m < n from by omega)
    obtain ⟨a2, n2, c2, x2, hp2, hc2, hs2⟩ := row_at hcur hn hg hlt
    have hS : Two K K v ⟨gb, 0 + (m + 1) * 1, none⟩ ⟨gb, 0 + m * 1, none⟩ a2 a1 n2 c2 n1 c1 x2 x1 := ⟨by rw [cell_of_row _ _ _ _ _ _ (hr.go hB), show 0 + (m + 1) * 1 = m + 1 from by omega]; exact hc2, hs2.go hB, by rw [cell_of_row _ _ _ _ _ _ (hr.go hB), show 0 + m * 1 = m from by omega]; exact hc1, hs1.go hB⟩
    refine cw_seq ?_
    refine cw_seq ?_
    refine cw_region ?_
    refine rp 12 (.int .i64 ((m + 1 : Nat) : Int)) ?_
    refine rp 13 (.slice (some ⟨gb, 0, none⟩) n cap) ?_
    refine rp 14 (.int .i64 n) ?_
    refine rv 15 (.bool true) (fun _ => ol_conv (v := .bool (decide (((m + 1 : Nat) : Int) < (n : Int)))) (by kernel_rfl) (congrArg Value.bool (decide_eq_true (by omega)))) ?_
    refine rw_nil ?_
    refine nw_then ?_
    refine cw_cond_t (fun _ => by kernel_rfl) ?_
    refine cw_skip ?_
    refine nw_then ?_
    refine cw_seq ?_
    refine cw_block ?_
    refine cw_seq ?_
    refine cw_draw (fun v => Two K K v ⟨gb, 0 + (m + 1) * 1, none⟩ ⟨gb, 0 + m * 1, none⟩ a2 a1 n2 c2 n1 c1 x2 x1) (by kernel_rfl) (hS.drew) ?_
    replace hB := hB.drew
    replace hS := hS.drew
    refine dt 0 18 (.func (.func 44) #[] #[]) (fun v hv _ => by kernel_rfl) hS ?_
    refine dt 1 19 (.slice (some ⟨gb, 0, none⟩) n cap) (fun v hv _ => by kernel_rfl) hS ?_
    refine dt 2 20 (.int .i64 ((m + 1 : Nat) : Int)) (fun v hv _ => by kernel_rfl) hS ?_
    refine dt 3 21 (.pointer (some ⟨gb, 0 + (m + 1) * 1, none⟩)) (fun v hv _ => ol_index 41 _ _ gb 0 (m + 1) n cap 1 27 rfl (by kernel_rfl) (by kernel_rfl) (by omega) Tryz.underlying41 (by kernel_rfl)) hS ?_
    refine dt 4 22 (.slice a2 n2 c2) (fun v hv _ => ol_cell 27 _ _ _ _ rfl (by kernel_rfl) hv.cc Tryz.underlying27 rfl) hS ?_
    refine dt 5 23 (.slice (some ⟨gb, 0, none⟩) n cap) (fun v hv _ => by kernel_rfl) hS ?_
    refine dt 6 24 (.int .i64 ((m + 1 : Nat) : Int)) (fun v hv _ => by kernel_rfl) hS ?_
    refine dt 7 25 (.int .i64 ((m : Nat) : Int)) (fun v hv _ => ol_conv (v := .int .i64 (IntKind.i64.wrap (((m + 1 : Nat) : Int) - 1))) (by kernel_rfl) (congrArg (Value.int .i64) (by rw [wrap64 (by omega) (by omega)]; omega))) hS ?_
    refine dt 8 26 (.pointer (some ⟨gb, 0 + m * 1, none⟩)) (fun v hv _ => ol_index 41 _ _ gb 0 m n cap 1 27 rfl (by kernel_rfl) (by kernel_rfl) (by omega) Tryz.underlying41 (by kernel_rfl)) hS ?_
    refine dt 9 27 (.slice a1 n1 c1) (fun v hv _ => ol_cell 27 _ _ _ _ rfl (by kernel_rfl) hv.cc' Tryz.underlying27 rfl) hS ?_
    refine dw_ready [10] (by kernel_rfl) (by simp) ?_
    refine ar_call 10 28 44 #[.slice a2 n2 c2, .slice a1 n1 c1] rfl (fun _ => by kernel_rfl) (fun _ => by kernel_rfl) (R := fun u w' => u = .bool (decide (x2 = x1)) ∧ Bl (v.drew) w') (equal_any hS.sk hS.sk') (fun u w' h => hS.go h.2) ?_ ar_nil
    rintro _ u1 ⟨rfl, hb2⟩
    replace hB := hB.go hb2
    replace hS := hS.go hb2
    refine dw_done (by kernel_rfl) ?_
    refine nw_then ?_
    by_cases hpq : x2 = x1
    · skip
      rw [show (decide (x2 = x1)) = true from by simp [hpq]]
      refine cw_cond_t (fun _ => by kernel_rfl) ?_
      refine cw_seq ?_
      obtain ⟨l2, hl2⟩ : ∃ l2, n = m + 1 + l2 := ⟨n - (m + 1), by omega⟩
      obtain ⟨e2, he2⟩ : ∃ e2, cap = m + 1 + e2 := ⟨cap - (m + 1), by omega⟩
      have hC := CI.start (hr.go hB) (Touch.of_below hB) hcur hsz hn hg hlt hd hp1 hp2 hpq
      clear hS
      refine cw_region ?_
      refine rp 29 (.slice (some ⟨gb, 0, none⟩) n cap) ?_
      refine rp 30 (.int .i64 ((m + 1 : Nat) : Int)) ?_
      refine rv 31 (.slice (some ⟨gb, 0 + (m + 1) * 1, none⟩) l2 e2) (fun _ => ol_from41 _ _ gb 0 (m + 1) n cap l2 e2 rfl (by kernel_rfl) (by kernel_rfl) hl2 he2 (by omega)) ?_
      refine rp 6 (.slice (some ⟨gb, 0 + (m + 1) * 1, none⟩) l2 e2) ?_
      refine rw_nil ?_
      refine nw_then ?_
      refine cw_seq ?_
      refine cw_seq ?_
      refine cw_region ?_
      refine rp 7 (.int .i64 1) ?_
      refine rw_nil ?_
      refine nw_then ?_
      refine cw_block ?_
      refine cw_loop (X := Nat × Nat × Array Value × List (Value × List Int)) (fun z => [(7, .int .i64 ((z.1 + 1 : Nat) : Int)), (5, .int .i64 ((z.2.1 : Nat) : Int)), (6, .slice (some ⟨gb, 0 + (m + 1) * 1, none⟩) l2 e2), (0, .slice (some ⟨gb, 0, none⟩) n cap), (1, .func (.func 44) #[] #[])]) (fun z v => CI K w gb n cap m ps z.1 z.2.1 z.2.2.1 z.2.2.2 v) (fun z => n - z.1) (0, m + 1, cur, ps.take (m + 1)) (by exact ⟨fun _ => by kernel_rfl, ⟨fun _ => by kernel_rfl, ⟨fun _ => by kernel_rfl, ⟨fun _ => by kernel_rfl, ⟨fun _ => by kernel_rfl, trivial⟩⟩⟩⟩⟩) hC ?_
      clear hC hB hpq hs1 hs2 hp1 hp2 hc1 hc2
      rintro ⟨m2, q, cu, qs⟩ v hC
      simp only at hC
      show CW _ _ _ _ _ _ _ [(7, .int .i64 ((m2 + 1 : Nat) : Int)), (5, .int .i64 ((q : Nat) : Int)), (6, .slice (some ⟨gb, 0 + (m + 1) * 1, none⟩) l2 e2), (0, .slice (some ⟨gb, 0, none⟩) n cap), (1, .func (.func 44) #[] #[])] _
      have hle2 := hC.le
      have hqm := hC.qm
      have hcs := hC.sz
      by_cases hl3 : m2 + 1 < l2
      · skip
        obtain ⟨a3, n3, c3, x3, hp3, -, hs3⟩ := row_at hcur hn hg (show m + m2 + 1 < n from by omega)
        obtain ⟨a4, n4, c4, x4, hp4, -, hs4⟩ := row_at hcur hn hg (show m + m2 + 1 + 1 < n from by omega)
        have hc3 : cu[m + m2 + 1]? = some (.slice a3 n3 c3) := by rw [hC.rest _ (by omega) (by omega), hp3]; rfl
        have hc4 : cu[m + m2 + 1 + 1]? = some (.slice a4 n4 c4) := by rw [hC.rest _ (by omega) (by omega), hp4]; rfl
        have hS : Two K K v ⟨gb, 0 + (m + 1) * 1 + (m2 + 1) * 1, none⟩ ⟨gb, 0 + (m + 1) * 1 + m2 * 1, none⟩ a4 a3 n4 c4 n3 c3 x4 x3 := ⟨by rw [cell_of_row _ _ _ _ _ _ hC.r, show 0 + (m + 1) * 1 + (m2 + 1) * 1 = m + m2 + 1 + 1 from by omega]; exact hc4, hs4.tou hC.t hK, by rw [cell_of_row _ _ _ _ _ _ hC.r, show 0 + (m + 1) * 1 + m2 * 1 = m + m2 + 1 from by omega]; exact hc3, hs3.tou hC.t hK⟩
        refine cw_seq ?_
        refine cw_seq ?_
        refine cw_region ?_
        refine rp 32 (.int .i64 ((m2 + 1 : Nat) : Int)) ?_
        refine rp 33 (.slice (some ⟨gb, 0 + (m + 1) * 1, none⟩) l2 e2) ?_
        refine rp 34 (.int .i64 l2) ?_
        refine rv 35 (.bool true) (fun _ => ol_conv (v := .bool (decide (((m2 + 1 : Nat) : Int) < (l2 : Int)))) (by kernel_rfl) (congrArg Value.bool (decide_eq_true (by omega)))) ?_
        refine rw_nil ?_
        refine nw_then ?_
        refine cw_cond_t (fun _ => by kernel_rfl) ?_
        refine cw_skip ?_
        refine nw_then ?_
        refine cw_seq ?_
        refine cw_block ?_
        refine cw_seq ?_
        refine cw_draw (fun v => Two K K v ⟨gb, 0 + (m + 1) * 1 + (m2 + 1) * 1, none⟩ ⟨gb, 0 + (m + 1) * 1 + m2 * 1, none⟩ a4 a3 n4 c4 n3 c3 x4 x3) (by kernel_rfl) (hS.drew) ?_
        replace hC := hC.drew
        replace hS := hS.drew
        refine dt 0 38 (.func (.func 44) #[] #[]) (fun v hv _ => by kernel_rfl) hS ?_
        refine dt 1 39 (.slice (some ⟨gb, 0 + (m + 1) * 1, none⟩) l2 e2) (fun v hv _ => by kernel_rfl) hS ?_
        refine dt 2 40 (.int .i64 ((m2 + 1 : Nat) : Int)) (fun v hv _ => by kernel_rfl) hS ?_
        refine dt 3 41 (.pointer (some ⟨gb, 0 + (m + 1) * 1 + (m2 + 1) * 1, none⟩)) (fun v hv _ => ol_index 41 _ _ gb (0 + (m + 1) * 1) (m2 + 1) l2 e2 1 27 rfl (by kernel_rfl) (by kernel_rfl) (by omega) Tryz.underlying41 (by kernel_rfl)) hS ?_
        refine dt 4 42 (.slice a4 n4 c4) (fun v hv _ => ol_cell 27 _ _ _ _ rfl (by kernel_rfl) hv.cc Tryz.underlying27 rfl) hS ?_
        refine dt 5 43 (.slice (some ⟨gb, 0 + (m + 1) * 1, none⟩) l2 e2) (fun v hv _ => by kernel_rfl) hS ?_
        refine dt 6 44 (.int .i64 ((m2 + 1 : Nat) : Int)) (fun v hv _ => by kernel_rfl) hS ?_
        refine dt 7 45 (.int .i64 ((m2 : Nat) : Int)) (fun v hv _ => ol_conv (v := .int .i64 (IntKind.i64.wrap (((m2 + 1 : Nat) : Int) - 1))) (by kernel_rfl) (congrArg (Value.int .i64) (by rw [wrap64 (by omega) (by omega)]; omega))) hS ?_
        refine dt 8 46 (.pointer (some ⟨gb, 0 + (m + 1) * 1 + m2 * 1, none⟩)) (fun v hv _ => ol_index 41 _ _ gb (0 + (m + 1) * 1) m2 l2 e2 1 27 rfl (by kernel_rfl) (by kernel_rfl) (by omega) Tryz.underlying41 (by kernel_rfl)) hS ?_
        refine dt 9 47 (.slice a3 n3 c3) (fun v hv _ => ol_cell 27 _ _ _ _ rfl (by kernel_rfl) hv.cc' Tryz.underlying27 rfl) hS ?_
        refine dw_ready [10] (by kernel_rfl) (by simp) ?_
        refine ar_call 10 48 44 #[.slice a4 n4 c4, .slice a3 n3 c3] rfl (fun _ => by kernel_rfl) (fun _ => by kernel_rfl) (R := fun u w' => u = .bool (decide (x4 = x3)) ∧ Bl (v.drew) w') (equal_any hS.sk hS.sk') (fun u w' h => hS.go h.2) ?_ ar_nil
        rintro _ u3 ⟨rfl, hb4⟩
        replace hC := hC.go hb4
        replace hS := hS.go hb4
        refine dt 11 49 (.bool (!(decide (x4 = x3)))) (fun v hv _ => by kernel_rfl) hS ?_
        refine dw_done (by kernel_rfl) ?_
        refine nw_then ?_
        by_cases hpz : x4 = x3
        · skip
          rw [show (!(decide (x4 = x3))) = false from by simp [hpz]]
          refine cw_cond_f (fun _ => by kernel_rfl) ?_
          refine cw_skip ?_
          refine nw_block ?_
          refine nw_then ?_
          refine cw_region ?_
          refine rp 36 (.int .i64 ((m2 + 1 : Nat) : Int)) ?_
          refine rv 37 (.int .i64 ((m2 + 1 + 1 : Nat) : Int)) (fun _ => ol_conv (v := .int .i64 (IntKind.i64.wrap (((m2 + 1 : Nat) : Int) + 1))) (by kernel_rfl) (congrArg (Value.int .i64) (by rw [wrap64 (by omega) (by omega)]; omega))) ?_
          refine rp 7 (.int .i64 ((m2 + 1 + 1 : Nat) : Int)) ?_
          refine rw_nil ?_
          exact nw_round (E := fun z => [(7, .int .i64 ((z.1 + 1 : Nat) : Int)), (5, .int .i64 ((z.2.1 : Nat) : Int)), (6, .slice (some ⟨gb, 0 + (m + 1) * 1, none⟩) l2 e2), (0, .slice (some ⟨gb, 0, none⟩) n cap), (1, .func (.func 44) #[] #[])]) (R := fun z v => CI K w gb n cap m ps z.1 z.2.1 z.2.2.1 z.2.2.2 v) (μ := fun z => n - z.1) (x := (m2, q, cu, qs)) (m2 + 1, q, cu, qs) (by exact ⟨fun _ => by kernel_rfl, ⟨fun _ => by kernel_rfl, ⟨fun _ => by kernel_rfl, ⟨fun _ => by kernel_rfl, ⟨fun _ => by kernel_rfl, trivial⟩⟩⟩⟩⟩) (hC.keep hp3 hp4 (by omega) hpz) (by show n - (m2 + 1) < n - m2; omega)
        · skip
          rw [show (!(decide (x4 = x3))) = true from by simp [hpz]]
          refine cw_cond_t (fun _ => by kernel_rfl) ?_
          refine cw_seq ?_
          refine cw_region ?_
          refine rp 50 (.slice (some ⟨gb, 0, none⟩) n cap) ?_
          refine rp 51 (.int .i64 ((q : Nat) : Int)) ?_
          refine rp 52 (.slice (some ⟨gb, 0 + (m + 1) * 1, none⟩) l2 e2) ?_
          refine rp 53 (.int .i64 ((m2 + 1 : Nat) : Int)) ?_
          refine rv 54 (.pointer (some ⟨gb, 0 + (m + 1) * 1 + (m2 + 1) * 1, none⟩)) (fun _ => ol_index 41 _ _ gb (0 + (m + 1) * 1) (m2 + 1) l2 e2 1 27 rfl (by kernel_rfl) (by kernel_rfl) (by omega) Tryz.underlying41 (by kernel_rfl)) ?_
          refine rv 55 (.slice a4 n4 c4) (fun _ => ol_cell 27 _ _ _ _ rfl (by kernel_rfl) hS.cc Tryz.underlying27 rfl) ?_
          refine rv 56 (.pointer (some ⟨gb, 0 + q * 1, none⟩)) (fun _ => ol_index 41 _ _ gb 0 q n cap 1 27 rfl (by kernel_rfl) (by kernel_rfl) (by omega) Tryz.underlying41 (by kernel_rfl)) ?_
          refine rw_set1 gb (0 + q * 1) (.slice a4 n4 c4) (fun _ => by kernel_rfl) (fun _ => ol_setC 27 _ _ gb (0 + q * 1) _ _ _ hC.r rfl (by kernel_rfl) (by kernel_rfl) (by omega) rfl rfl (by kernel_rfl)) ?_
          intro w5 hset
          replace hset : Set1 u3 w5 gb q (.slice a4 n4 c4) := by rw [show 0 + q * 1 = q from by omega] at hset; exact hset
          replace hC := hC.move hp3 hp4 (by omega) (by omega) hpz ⟨_, _, _, rfl, hs4⟩ hset rfl
          clear hS
          refine rw_nil ?_
          refine nw_then ?_
          refine cw_region ?_
          refine rp 57 (.int .i64 ((q : Nat) : Int)) ?_
          refine rv 58 (.int .i64 ((q + 1 : Nat) : Int)) (fun _ => ol_conv (v := .int .i64 (IntKind.i64.wrap (((q : Nat) : Int) + 1))) (by kernel_rfl) (congrArg (Value.int .i64) (by rw [wrap64 (by omega) (by omega)]; omega))) ?_
          refine rp 5 (.int .i64 ((q + 1 : Nat) : Int)) ?_
          refine rw_nil ?_
          refine nw_block ?_
          refine nw_then ?_
          refine cw_region ?_
          refine rp 36 (.int .i64 ((m2 + 1 : Nat) : Int)) ?_
          refine rv 37 (.int .i64 ((m2 + 1 + 1 : Nat) : Int)) (fun _ => ol_conv (v := .int .i64 (IntKind.i64.wrap (((m2 + 1 : Nat) : Int) + 1))) (by kernel_rfl) (congrArg (Value.int .i64) (by rw [wrap64 (by omega) (by omega)]; omega))) ?_
          refine rp 7 (.int .i64 ((m2 + 1 + 1 : Nat) : Int)) ?_
          refine rw_nil ?_
          exact nw_round (E := fun z => [(7, .int .i64 ((z.1 + 1 : Nat) : Int)), (5, .int .i64 ((z.2.1 : Nat) : Int)), (6, .slice (some ⟨gb, 0 + (m + 1) * 1, none⟩) l2 e2), (0, .slice (some ⟨gb, 0, none⟩) n cap), (1, .func (.func 44) #[] #[])]) (R := fun z v => CI K w gb n cap m ps z.1 z.2.1 z.2.2.1 z.2.2.2 v) (μ := fun z => n - z.1) (x := (m2, q, cu, qs)) (m2 + 1, q + 1, cu.setIfInBounds q (.slice a4 n4 c4), qs ++ [(.slice a4 n4 c4, x4)]) (by exact ⟨fun _ => by kernel_rfl, ⟨fun _ => by kernel_rfl, ⟨fun _ => by kernel_rfl, ⟨fun _ => by kernel_rfl, ⟨fun _ => by kernel_rfl, trivial⟩⟩⟩⟩⟩) hC (by show n - (m2 + 1) < n - m2; omega)
      have hfin : m + 1 + (m2 + 1) = n := by omega
      refine cw_seq ?_
      refine cw_seq ?_
      refine cw_region ?_
      refine rp 32 (.int .i64 ((m2 + 1 : Nat) : Int)) ?_
      refine rp 33 (.slice (some ⟨gb, 0 + (m + 1) * 1, none⟩) l2 e2) ?_
      refine rp 34 (.int .i64 l2) ?_
      refine rv 35 (.bool false) (fun _ => ol_conv (v := .bool (decide (((m2 + 1 : Nat) : Int) < (l2 : Int)))) (by kernel_rfl) (congrArg Value.bool (decide_eq_false (by omega)))) ?_
      refine rw_nil ?_
      refine nw_then ?_
      refine cw_cond_f (fun _ => by kernel_rfl) ?_
      refine cw_exit ?_
      refine nw_exit_then ?_
      refine nw_exit_then ?_
      refine nw_exit_here ?_
      refine nw_then ?_
      refine cw_seq ?_
      obtain ⟨l3, hl4⟩ : ∃ l3, n = q + l3 := ⟨n - q, by omega⟩
      obtain ⟨e3, he3⟩ : ∃ e3, cap = q + e3 := ⟨cap - q, by omega⟩
      refine cw_region ?_
      refine rp 59 (.slice (some ⟨gb, 0, none⟩) n cap) ?_
      refine rp 60 (.int .i64 ((q : Nat) : Int)) ?_
      refine rv 61 (.slice (some ⟨gb, 0 + q * 1, none⟩) l3 e3) (fun _ => ol_from41 _ _ gb 0 q n cap l3 e3 rfl (by kernel_rfl) (by kernel_rfl) hl4 he3 (by omega)) ?_
      have hF := hC.done hn hfin hK (List.replicate l3 (.slice none 0 0))
      refine rw_n (.tuple #[]) (w' := World.setCells v gb (0 + q * 1) (List.replicate l3 (.slice none 0 0))) (fun _ => by kernel_rfl) (fun _ => ol_clear _ gb (0 + q * 1) l3 e3 _ rfl (by kernel_rfl) hC.r (by omega) (by omega)) ?_
      generalize World.setCells v gb (0 + q * 1) (List.replicate l3 (.slice none 0 0)) = wF at hF ⊢
      refine rw_nil ?_
      refine nw_then ?_
      refine cw_seq ?_
      refine cw_region ?_
      refine rp 62 (.slice (some ⟨gb, 0, none⟩) n cap) ?_
      refine rp 63 (.int .i64 ((q : Nat) : Int)) ?_
      refine rv 64 (.slice (some ⟨gb, 0, none⟩) q cap) (fun _ => ol_to41 _ _ gb 0 q n cap rfl (by kernel_rfl) (by kernel_rfl) (by omega) (by omega)) ?_
      refine rp 4 (.slice (some ⟨gb, 0, none⟩) q cap) ?_
      refine rw_nil ?_
      refine nw_then ?_
      refine cw_ret ?_
      refine nw_ret_block ?_
      refine nw_ret_then ?_
      refine nw_ret_then ?_
      refine nw_ret_block ?_
      refine nw_ret_then ?_
      exact nw_ret_body (.slice (some ⟨gb, 0, none⟩) q cap) (fun _ => by kernel_rfl) ⟨_, rfl, q, rfl, hF.1, hF.2⟩
    · skip
      rw [show (decide (x2 = x1)) = false from by simp [hpq]]
      refine cw_cond_f (fun _ => by kernel_rfl) ?_
      refine cw_skip ?_
      refine nw_block ?_
      refine nw_then ?_
      refine cw_region ?_
      refine rp 16 (.int .i64 ((m + 1 : Nat) : Int)) ?_
      refine rv 17 (.int .i64 ((m + 1 + 1 : Nat) : Int)) (fun _ => ol_conv (v := .int .i64 (IntKind.i64.wrap (((m + 1 : Nat) : Int) + 1))) (by kernel_rfl) (congrArg (Value.int .i64) (by rw [wrap64 (by omega) (by omega)]; omega))) ?_
      refine rp 5 (.int .i64 ((m + 1 + 1 : Nat) : Int)) ?_
      refine rw_nil ?_
      exact nw_round (E := fun m => [(5, .int .i64 ((m + 1 : Nat) : Int)), (0, .slice (some ⟨gb, 0, none⟩) n cap), (1, .func (.func 44) #[] #[])]) (R := fun m v => Bl w v ∧ m + 1 ≤ n ∧ dd ((ps.map Prod.snd).take (m + 1)) = (ps.map Prod.snd).take (m + 1)) (μ := fun m => n - m) (x := m) (m + 1) (by exact ⟨fun _ => by kernel_rfl, ⟨fun _ => by kernel_rfl, ⟨fun _ => by kernel_rfl, trivial⟩⟩⟩) ⟨hB, by omega, dd_go hp1 hp2 hd hpq⟩ (by show n - (m + 1) < n - m; omega)
  obtain rfl : m + 1 = n := by omega
  refine cw_seq ?_
  refine cw_seq ?_
  refine cw_region ?_
  refine rp 12 (.int .i64 ((m + 1 : Nat) : Int)) ?_
  refine rp 13 (.slice (some ⟨gb, 0, none⟩) (m + 1) cap) ?_
  refine rp 14 (.int .i64 (m + 1)) ?_
  refine rv 15 (.bool false) (fun _ => ol_conv (v := .bool (decide (((m + 1 : Nat) : Int) < (m + 1 : Int)))) (by kernel_rfl) (congrArg Value.bool (decide_eq_false (by omega)))) ?_
  refine rw_nil ?_
  refine nw_then ?_
  refine cw_cond_f (fun _ => by kernel_rfl) ?_
  refine cw_exit ?_
  refine nw_exit_then ?_
  refine nw_exit_then ?_
  refine nw_exit_here ?_
  refine nw_then ?_
  refine cw_seq ?_
  refine cw_region ?_
  refine rp 65 (.slice (some ⟨gb, 0, none⟩) (m + 1) cap) ?_
  refine rp 4 (.slice (some ⟨gb, 0, none⟩) (m + 1) cap) ?_
  refine rw_nil ?_
  refine nw_then ?_
  refine cw_ret ?_
  exact nw_ret_body (.slice (some ⟨gb, 0, none⟩) (m + 1) cap) (fun _ => by kernel_rfl) ⟨_, rfl, m + 1, rfl, (bt_whole hr hcur hn hg (by rw [← hn, ← List.length_map (f := Prod.snd), List.take_length] at hd; exact hd)).go hB, Touch.of_below hB⟩
theorem compact_any {K : Nat → Prop} {w : World} {gb n cap : Nat} {ps : List (Value × List Int)} {cur : Array Value} (hr : Rw gb w cur 27) (hcur : cur.toList.take n = ps.map Prod.fst) (hsz : cur.size = cap) (hn : ps.length = n) (hle : n ≤ cap) (hg : ∀ p ∈ ps, Gd K w p) (hK : ¬ K gb) (hb : n ≤ 7600000000002) :
    Calls Tryz.prog 43 #[.slice (some ⟨gb, 0, none⟩) n cap, .func (.func 44) #[] #[]] w fun e w' => ∃ u, e = .returned u ∧ (fun u w' => ∃ k, u = .slice (some ⟨gb, 0, none⟩) k cap ∧ Bt K w' (some ⟨gb, 0, none⟩) k (dd (ps.map Prod.snd)) ∧ Touch gb w w') u w' := by
  by_cases h2 : n < 2
  · exact compact_small hr hcur hsz hn hle hg hK hb h2
  · exact compact_big hr hcur hsz hn hle hg hK hb h2
end Go.Proofs.YtalhnnjpjaeakaaGreat
/- The shelf's sort, laid at this program. -/
namespace Go.Proofs.YtalhnnjpjaeakaaGreat
open Go.Shelf
def sortB_ren : Go.Shelf.Ren := ⟨fun | 6 => 41 | 15 => 61 | 14 => 60 | 28 => 94 | 29 => 95 | 20 => 86 | 21 => 87 | 22 => 88 | 23 => 89 | 24 => 90 | 25 => 91 | 26 => 92 | 27 => 93 | 46 => 120 | 47 => 121 | 48 => 122 | 49 => 123 | 50 => 124 | 57 => 139 | n => n, fun | 22 => 41 | 24 => 27 | 25 => 84 | 3 => 3 | 39 => 100 | 0 => 0 | 53 => 153 | 55 => 112 | 4 => 4 | 46 => 147 | 45 => 146 | 50 => 76 | 5 => 5 | 9 => 9 | 66 => 169 | 70 => 173 | 76 => 187 | 77 => 188 | n => n, fun | n => n⟩
theorem sortB : Go.Proofs.SlLaysF.n6 Tryz.prog sortB_ren := {
  mixed := by kernel_rfl
  f6 := ⟨Tryz.f41.name, by decide, Tryz.func41.trans (congrArg some (by kernel_rfl))⟩
  f14 := ⟨Tryz.f60.name, by decide, Tryz.func60.trans (congrArg some (by kernel_rfl))⟩
  f15 := Tryz.func61.trans (congrArg some (by kernel_rfl))
  f20 := ⟨Tryz.f86.name, by decide, Tryz.func86.trans (congrArg some (by kernel_rfl))⟩
  f21 := ⟨Tryz.f87.name, by decide, Tryz.func87.trans (congrArg some (by kernel_rfl))⟩
  f22 := ⟨Tryz.f88.name, by decide, Tryz.func88.trans (congrArg some (by kernel_rfl))⟩
  f23 := ⟨Tryz.f89.name, by decide, Tryz.func89.trans (congrArg some (by kernel_rfl))⟩
  f24 := ⟨Tryz.f90.name, by decide, Tryz.func90.trans (congrArg some (by kernel_rfl))⟩
  f25 := ⟨Tryz.f91.name, by decide, Tryz.func91.trans (congrArg some (by kernel_rfl))⟩
  f26 := ⟨Tryz.f92.name, by decide, Tryz.func92.trans (congrArg some (by kernel_rfl))⟩
  f27 := ⟨Tryz.f93.name, by decide, Tryz.func93.trans (congrArg some (by kernel_rfl))⟩
  f28 := Tryz.func94.trans (congrArg some (by kernel_rfl))
  f29 := Tryz.func95.trans (congrArg some (by kernel_rfl))
  f46 := ⟨Tryz.f120.name, by decide, Tryz.func120.trans (congrArg some (by kernel_rfl))⟩
  f47 := Tryz.func121.trans (congrArg some (by kernel_rfl))
  f48 := Tryz.func122.trans (congrArg some (by kernel_rfl))
  f49 := ⟨Tryz.f123.name, by decide, Tryz.func123.trans (congrArg some (by kernel_rfl))⟩
  f50 := ⟨Tryz.f124.name, by decide, Tryz.func124.trans (congrArg some (by kernel_rfl))⟩
  f57 := ⟨Tryz.f139.name, by decide, Tryz.func139.trans (congrArg some (by kernel_rfl))⟩
  t0 := Tryz.underlying0
  a0 := Tryz.isAgg0
  z0 := Tryz.sizeOf0
  v0 := Tryz.zeroValue0
  t3 := Tryz.underlying3
  a3 := Tryz.isAgg3
  z3 := Tryz.sizeOf3
  v3 := Tryz.zeroValue3
  t4 := Tryz.underlying4
  a4 := Tryz.isAgg4
  z4 := Tryz.sizeOf4
  v4 := Tryz.zeroValue4
  t5 := Tryz.underlying5
  a5 := Tryz.isAgg5
  z5 := Tryz.sizeOf5
  v5 := Tryz.zeroValue5
  t9 := Tryz.underlying9
  a9 := Tryz.isAgg9
  z9 := Tryz.sizeOf9
  v9 := Tryz.zeroValue9
  t22 := Tryz.underlying41
  a22 := Tryz.isAgg41
  z22 := Tryz.sizeOf41
  v22 := Tryz.zeroValue41
  a24 := Tryz.isAgg27
  z24 := Tryz.sizeOf27
  t25 := Tryz.underlying84
  a25 := Tryz.isAgg84
  z25 := Tryz.sizeOf84
  v25 := Tryz.zeroValue84
  t39 := Tryz.underlying100
  a39 := Tryz.isAgg100
  z39 := Tryz.sizeOf100
  v39 := Tryz.zeroValue100
  t45 := Tryz.underlying146
  a45 := Tryz.isAgg146
  z45 := Tryz.sizeOf146
  v45 := Tryz.zeroValue146
  t46 := Tryz.underlying147
  a46 := Tryz.isAgg147
  z46 := Tryz.sizeOf147
  v46 := Tryz.zeroValue147
  t50 := Tryz.underlying76
  a50 := Tryz.isAgg76
  z50 := Tryz.sizeOf76
  v50 := Tryz.zeroValue76
  t53 := Tryz.underlying153
  a53 := Tryz.isAgg153
  z53 := Tryz.sizeOf153
  v53 := Tryz.zeroValue153
  t55 := Tryz.underlying112
  a55 := Tryz.isAgg112
  z55 := Tryz.sizeOf112
  v55 := Tryz.zeroValue112
  t66 := Tryz.underlying169
  a66 := Tryz.isAgg169
  z66 := Tryz.sizeOf169
  v66 := Tryz.zeroValue169
  t70 := Tryz.underlying173
  a70 := Tryz.isAgg173
  z70 := Tryz.sizeOf173
  v70 := Tryz.zeroValue173
  t76 := Tryz.underlying187
  a76 := Tryz.isAgg187
  z76 := Tryz.sizeOf187
  v76 := Tryz.zeroValue187
  t77 := Tryz.underlying188
  a77 := Tryz.isAgg188
  z77 := Tryz.sizeOf188
  v77 := Tryz.zeroValue188 }
end Go.Proofs.YtalhnnjpjaeakaaGreat
/- The sort of byte strings. -/
namespace Go.Proofs.YtalhnnjpjaeakaaGreat
open Go.RowKit Go.Proofs
open Go.Sort (Holds putRow putCells)
open Ni (lessP less_one)
set_option linter.unusedVariables false
set_option maxRecDepth 100000
abbrev Gp (K : Nat → Prop) (w : World) : Type := {p : Value × List Int // Gd K w p}
def encQ {K : Nat → Prop} {w : World} (x : Gp K w) : Value := x.1.1
def ordQ {K : Nat → Prop} {w : World} (x y : Gp K w) : Int := cmpP x.1.2 y.1.2
theorem ordP_lt {K : Nat → Prop} {w : World} (x y : Gp K w) : Go.Proofs.ltOf ordQ x y = lessP x.1.2 y.1.2 := cmp_lt _ _
theorem swoP (K : Nat → Prop) (w : World) : Sort.SWO (Go.Proofs.ltOf (ordQ (K := K) (w := w))) := ⟨fun x => by rw [ordP_lt]; exact less_irr _, fun x y z h1 h2 => by rw [ordP_lt] at *; exact less_trans _ _ _ h1 h2, fun x y z h1 h2 => by
  rw [ordP_lt] at *
  cases hq : lessP x.1.2 z.1.2 with
  | false => rfl
  | true =>
    by_cases e : x.1.2 = y.1.2
    · rw [e] at hq; rw [hq] at h2; cases h2
    · have h3 := less_tot x.1.2 y.1.2 e h1
      have h4 := less_trans _ _ _ h3 hq
      rw [h4] at h2; cases h2⟩
theorem mapBlock_other (w : World) (b k : Nat) (f : Array Value → Array Value) (h : k ≠ b) : (Sort.mapBlock w b f).heap[k]? = w.heap[k]? := by
  unfold Sort.mapBlock
  simp [Array.getElem?_modify, Ne.symm h]
theorem sortW_touch {α : Type} [Inhabited α] (enc : α → Value) (w : World) (gb nn : Nat) (d : Array α) (os : Array Obj) : Touch gb w (sortWorld enc w gb 0 nn d os) := by
  refine ⟨rfl, rfl, rfl, ?_, fun k hk hne => ?_⟩
  · simp [sortWorld, putRow, Sort.mapBlock, Sort.grow, Sort.ahead]
  · show ((putRow enc (Sort.ahead w nn) gb 0 d).heap ++ os)[k]? = w.heap[k]?
    have hsz2 : (putRow enc (Sort.ahead w nn) gb 0 d).heap.size = w.heap.size := by simp [putRow, Sort.mapBlock, Sort.ahead]
    rw [Array.getElem?_append_left (by rw [hsz2]; exact hk)]
    exact mapBlock_other (Sort.ahead w nn) gb k _ hne
theorem sortW_row {α : Type} [Inhabited α] (enc : α → Value) (w : World) (gb nn : Nat) (d : Array α) (os : Array Obj) {cur : Array Value} {T : TypeId} (h : Rw gb w cur T) : Rw gb (sortWorld enc w gb 0 nn d os) (putCells enc 0 d cur) T := by
  show ((putRow enc (Sort.ahead w nn) gb 0 d).heap ++ os)[gb]? = _
  have hsz2 : (putRow enc (Sort.ahead w nn) gb 0 d).heap.size = w.heap.size := by simp [putRow, Sort.mapBlock, Sort.ahead]
  rw [Array.getElem?_append_left (by rw [hsz2]; exact lt_of_get h)]
  unfold Rw at h
  have h' : (Sort.ahead w nn).heap[gb]? = some (.cells cur T (0, 0)) := h
  simp only [putRow, Sort.mapBlock, Array.getElem?_modify, h', Option.map_some, ↓reduceIte]
  rfl
theorem sort_bytes {K : Nat → Prop} {w : World} {gb n cap : Nat} {ps : List (Value × List Int)} {cur : Array Value} (hr : Rw gb w cur 27) (hcur : cur.toList.take n = ps.map Prod.fst) (hsz : cur.size = cap) (hn : ps.length = n) (hle : n ≤ cap) (hg : ∀ p ∈ ps, Gd K w p) (hK : ¬ K gb) (h0 : 0 < n) (hb : n ≤ 7600000000002) :
    Calls Tryz.prog 41 #[.slice (some ⟨gb, 0, none⟩) n cap, .func (.func 42) #[] #[]] w fun e w' => ∃ u, e = .returned u ∧ (fun u w' => u = .tuple #[] ∧ (∃ (ps' : List (Value × List Int)) (cur' : Array Value), ps'.Perm ps ∧ ps'.Pairwise (fun p q => lessP q.2 p.2 = false) ∧ Rw gb w' cur' 27 ∧ cur'.toList.take n = ps'.map Prod.fst ∧ cur'.size = cap) ∧ Touch gb w w') u w' := by
  obtain ⟨xs, hxs⟩ : ∃ xs : List (Gp K w), xs.map Subtype.val = ps := ⟨ps.pmap Subtype.mk hg, by simp [List.map_pmap]⟩
  have hxl : xs.length = n := by rw [← hn, ← hxs, List.length_map]
  have x0 : Gp K w := xs[0]'(by omega)
  haveI : Inhabited (Gp K w) := ⟨x0⟩
  have hsx : xs.toArray.size = n := by simp [hxl]
  have hcell : ∀ j (hj : j < n), cur[j]? = some (encQ (xs[j]'(by omega))) := by
    intro j hj
    have := congrArg (fun l => l[j]?) hcur
    rw [← hxs] at this
    simp only [List.getElem?_take_of_lt hj, List.map_map, List.getElem?_map, Array.getElem?_toList, List.getElem?_eq_getElem (show j < xs.length by omega), Option.map_some] at this
    exact this
  have hH : Holds encQ w gb 0 xs.toArray := by
    intro j hj
    rw [hsx] at hj
    refine ⟨?_, frozen_of_row _ _ _ _ _ hr⟩
    rw [cell_of_row _ _ _ _ _ _ hr, Nat.zero_add, hcell j hj]
    have : xs.toArray[j]! = xs[j]'(by omega) := by simp [hxl, hj]
    rw [this]
  have hcon := Go.Proofs.Any.slices_SortFunc sortB (encQ (K := K) (w := w)) (fun x => by
      obtain ⟨⟨v, b⟩, a, m, c, e, hs⟩ := x
      show v.oneCell' = true
      rw [show v = .slice a m c from e]; rfl) ordQ (swoP K w) 42 #[] gb 0 cap xs.toArray w (fun args w => by kernel_rfl)
    (fun mm os dk _ x y => by
      obtain ⟨⟨v, b⟩, a, m, c, e, hs⟩ := x
      obtain ⟨⟨v2, b2⟩, a2, m2, c2, e2, hs2⟩ := y
      have ht := sortW_touch (encQ (K := K) (w := w)) w gb mm dk os
      have h1 := bcmp_any (hs.tou ht hK) (hs2.tou ht hK)
      have e : v = .slice a m c := e
      have e2 : v2 = .slice a2 m2 c2 := e2
      subst e e2
      refine (show Calls Tryz.prog 42 (#[.slice a m c, .slice a2 m2 c2] ++ #[]) _ _ from h1).mono ?_
      rintro e w' ⟨rfl, rfl⟩
      exact ⟨rfl, 0, #[], by simp [Sort.grow, World.drewN]⟩) hH (lt_of_get hr) (by rw [hsx]; omega)
  rw [hsx] at hcon
  refine (show Calls Tryz.prog 41 #[.slice (some ⟨gb, 0, none⟩) n cap, .func (.func 42) #[] #[]] w _ from hcon).mono ?_
  rintro e w' ⟨rfl, d', nn, os, hp, hs, rfl⟩
  have hps : d'.size = n := by rw [hp.1, hsx]
  refine ⟨_, rfl, rfl, ⟨d'.toList.map Subtype.val, putCells encQ 0 d' cur, ?_, ?_, sortW_row _ _ _ _ _ _ hr, ?_, ?_⟩, sortW_touch _ _ _ _ _ _⟩
  · have := hp.2.2
    rw [show d'.extract 0 n = d' from by rw [← hps]; simp, show xs.toArray.extract 0 n = xs.toArray from by rw [← hsx]; simp] at this
    rw [← hxs]
    exact this.map _
  · rw [List.pairwise_map, List.pairwise_iff_getElem]
    intro i j hi hj hij
    simp at hi hj
    have h1 := hs i j (Nat.zero_le _) hij (by omega)
    rw [ordP_lt] at h1
    simp only [hi, hj, getElem!_pos] at h1
    simpa using h1
  · apply List.ext_getElem?
    intro j
    by_cases hj : j < n
    · rw [List.getElem?_take_of_lt hj, Array.getElem?_toList]
      have hc : j < cur.size := by omega
      simp only [putCells, Array.getElem?_mapIdx, Array.getElem?_eq_getElem hc, Option.map_some, List.map_map, List.getElem?_map, Array.getElem?_toList]
      rw [if_pos ⟨Nat.zero_le _, by omega⟩, Nat.sub_zero, getElem!_pos d' j (by omega), Array.getElem?_eq_getElem (show j < d'.size by omega)]
      rfl
    · rw [List.getElem?_eq_none (by simp; omega), List.getElem?_eq_none (by simp; omega)]
  · simp [putCells, hsz]
end Go.Proofs.YtalhnnjpjaeakaaGreat
/- What a writer writes: leaves; encodings. -/
namespace Go.Proofs.YtalhnnjpjaeakaaGreat
open Go.RowKit
open Tr
set_option linter.unusedVariables false
set_option maxRecDepth 100000
theorem nep_len {n : PN} (ho : okN n) : (NEP n).1.length ≤ 65540 := by
  unfold NEP
  split
  · rename_i h; exact (node_back ho h).2.2
  · simp
theorem ref_zero (w : World) : RefAt (fun _ => True) w rz r0 := ⟨rfl, rfl, fun x hx => by rw [List.mem_replicate.1 hx |>.2]; omega, rfl, ⟨.inl ⟨rfl, rfl⟩, fun _ => ⟨rfl, rfl⟩, rfl, fun x hx => by cases hx⟩, Nat.zero_le _, fun _ _ _ _ => trivial⟩
set_option maxHeartbeats 4000000 in
theorem lnode_any {w : World} {gW base : Nat} {vN : Value} {X : Nat → Prop} {ns : List (List Int)} (hW : Wt w gW base vN X ns) {Z : Nat → Prop} {a a' : Option Addr} {n c n' c' : Nat} {p x : List Int} (hp : Sk (KW gW vN Z) w a n c p) (hx : Sk (KW gW vN Z) w a' n' c' x) (hl1 : n ≤ 1000) (hl2 : n' ≤ 256) :
    Calls Tryz.prog 170 #[.agg #[.slice a n c, .slice a' n' c'], .pointer (some ⟨gW, 0, none⟩)] w fun e w' => ∃ u, e = .returned u ∧ RNd w gW base vN X ns (leaf p x) u w' := by
  have hB := Bl.refl w
  refine cw_enter Tryz.func170 rfl 10 rfl ?_
  show CW _ _ _ _ _ _ _ [(0, .agg #[.slice a n c, .slice a' n' c']), (1, .pointer (some ⟨gW, 0, none⟩))] _
  refine cw_seq ?_
  refine cw_region ?_
  refine rw_new 2 (#[.slice a n c, .slice a' n' c']) 98 (fun _ => by kernel_rfl) (fun _ => by kernel_rfl) ?_
  intro w1 g2 hn3
  replace hB := hB.go hn3.below
  replace hp := hp.go hn3.below
  replace hx := hx.go hn3.below
  replace hW := hW.go hn3.below
  have hr4 : Rw g2 w1 (#[.slice a n c, .slice a' n' c']) 98 := hn3.row
  refine rw_new 4 nz.cells.toArray 92 (fun _ => by kernel_rfl) (fun _ => by kernel_rfl) ?_
  intro wN gN hnN
  refine rw_nil ?_
  refine nw_then ?_
  refine cw_seq ?_
  refine cw_region ?_
  refine rp 5 (.pointer (some ⟨g2, 0, none⟩)) ?_
  refine rv 6 (.slice a n c) (fun _ => ol_cell 27 _ ⟨g2, 0, none⟩ _ _ rfl (by kernel_rfl) (by rw [cell_of_row _ _ _ _ _ _ (hr4.go hnN.below)]; rfl) Tryz.underlying27 rfl) ?_
  refine rp 7 (.pointer (some ⟨g2, 1, none⟩)) ?_
  refine rv 8 (.slice a' n' c') (fun _ => ol_cell 27 _ ⟨g2, 1, none⟩ _ _ rfl (by kernel_rfl) (by rw [cell_of_row _ _ _ _ _ _ (hr4.go hnN.below)]; rfl) Tryz.underlying27 rfl) ?_
  refine rv 9 (.agg (NV.cells ⟨1, a, n, c, a', n', c', rz, none, 0, 0⟩).toArray) (fun _ => ol_build 92 _ [(0, .int .i64 1), (1, .slice a n c), (2, .slice a' n' c')] _ rfl (by kernel_rfl) (built_N1 _ _ _ _ _ _)) ?_
  refine rw_put gN (NV.cells ⟨1, a, n, c, a', n', c', rz, none, 0, 0⟩).toArray (fun _ => by kernel_rfl) (fun _ => ol_store 92 _ _ _ _ _ _ rfl (by kernel_rfl) (by kernel_rfl) hnN.row (by kernel_rfl) (by kernel_rfl) (by kernel_rfl)) ?_
  intro wC hpC
  have hnC := hnN.put hpC
  replace hB := hB.go hnC.below
  replace hp := hp.go hnC.below
  replace hx := hx.go hnC.below
  replace hW := hW.go hnC.below
  have hrC : Rw gN wC (NV.cells ⟨1, a, n, c, a', n', c', rz, none, 0, 0⟩).toArray 92 := hnC.row
  refine rw_nil ?_
  refine nw_then ?_
  refine cw_ret ?_
  have lp := hp.len
  have lx := hx.len
  exact nw_ret_body (.agg (NV.cells ⟨1, a, n, c, a', n', c', rz, none, 0, 0⟩).toArray) (fun _ => results_n Tryz.results170 _ gN ⟨1, a, n, c, a', n', c', rz, none, 0, 0⟩ rfl (by kernel_rfl) hrC) ⟨_, rfl, ⟨1, a, n, c, a', n', c', rz, none, 0, 0⟩, vN, rfl, ⟨rfl, hp.agk (by omega), hx.agk (by omega), ref_zero _, ⟨rfl, Nat.le_refl _, Nat.zero_le _, Nat.zero_le _, fun _ => ⟨rfl, rfl⟩⟩, fun j r hr => by simp [nodeP] at hr⟩, (by rw [show nmd (leaf p x) = [] from rfl, List.append_nil]; exact hW), Wg.of_below hB⟩
set_option maxHeartbeats 4000000 in
theorem encode_yes {w : World} {gW base : Nat} {vN : Value} {X : Nat → Prop} {ns : List (List Int)} {t : Tr} (hne : t ≠ no) {T0 : TypeId} {v0 : Value} (hm : MC "pergola/trie.node" (.iface T0 v0) #[.pointer (some ⟨gW, 0, none⟩)] w (RNd w gW base vN X ns t)) :
    Calls Tryz.prog 40 #[.pointer (some ⟨gW, 0, none⟩), .iface T0 v0] w fun e w' => ∃ u, e = .returned u ∧ REn w gW base vN X ns t u w' := by
  have hB := Bl.refl w
  refine cw_enter Tryz.func40 rfl 15 rfl ?_
  show CW _ _ _ _ _ _ _ [(0, .pointer (some ⟨gW, 0, none⟩)), (1, .iface T0 v0)] _
  refine cw_seq ?_
  refine cw_region ?_
  refine rp 4 (.slice none 0 0) ?_
  refine rw_nil ?_
  refine nw_then ?_
  refine cw_seq ?_
  refine cw_region ?_
  refine rp 8 (.iface T0 v0) ?_
  refine rp 9 (.pointer (some ⟨gW, 0, none⟩)) ?_
  obtain ⟨T3, x4, f5, he6, hi1, hc2⟩ := hm
  refine rw_call 10 f5 (#[x4] ++ #[.pointer (some ⟨gW, 0, none⟩)]) (fun _ => by kernel_rfl) (fun _ => hi1 _ _ _ _ _ _ _ rfl (by kernel_rfl) (by kernel_rfl)) (R := RNd w gW base vN X ns t) ?_ ?_
  · exact hc2
  rintro _ u1 ⟨y, vM, rfl, hN, hW1, hG⟩
  refine rw_call 11 59 #[.agg y.cells.toArray] (fun _ => by kernel_rfl) (fun _ => by kernel_rfl) (R := fun u w' => ∃ a m c, u = .tuple #[.slice a m c, .int .i64 ((NEP (nodeP t)).2 : Nat)] ∧ Sk (fun b => u1.heap.size ≤ b) w' a m c (NEP (nodeP t)).1 ∧ Bl u1 w') ((nencode_any (fun _ => True) y (nodeP t) u1 hN).mono (fun e w' h => by obtain ⟨⟨a, m, c, e1, h1, h2⟩, h3⟩ := h; exact ⟨_, e1, a, m, c, rfl, ⟨h1, fun q hq hn => by rcases h1.i with ⟨q1, q2⟩ | ⟨gb, off, q1, _⟩; omega; rw [hq] at q1; cases q1; exact (h2 gb off hq hn).1⟩, h3⟩)) ?_
  rintro _ u2 ⟨a2, n2, c2, rfl, hs2, hb2⟩
  refine rp 7 (.tuple #[.slice a2 n2 c2, .int .i64 ((NEP (nodeP t)).2 : Nat)]) ?_
  refine rp 12 (.slice a2 n2 c2) ?_
  refine rp 13 (.int .i64 ((NEP (nodeP t)).2 : Nat)) ?_
  refine rp 5 (.slice a2 n2 c2) ?_
  refine rp 6 (.int .i64 ((NEP (nodeP t)).2 : Nat)) ?_
  refine rw_nil ?_
  refine nw_then ?_
  refine cw_seq ?_
  refine cw_region ?_
  refine rp 14 (.slice a2 n2 c2) ?_
  refine rp 4 (.slice a2 n2 c2) ?_
  refine rw_nil ?_
  refine nw_then ?_
  refine cw_ret ?_
  exact nw_ret_body (.slice a2 n2 c2) (fun _ => by kernel_rfl) ⟨_, rfl, a2, n2, c2, vM, rfl, (by rw [encT_node hne]; exact hs2.fresh (K := fun _ => True) hW1 hG.size), hW1.go hb2, hG.trans (Wg.of_below hb2), (by rw [encT_node hne]; exact nep_len hN.okN)⟩
end Go.Proofs.YtalhnnjpjaeakaaGreat

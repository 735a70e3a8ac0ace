/- A row of byte strings in a block of its own: cut, cleared; rid of its doubles. -/
import Derived.Test.YtalhnnjpjaeakaaGreatG28
import Derived.Test.YtalhnnjpjaeakaaGreatG21
import Derived.Lib.SliceRun
import Derived.Test.YtalhnnjpjaeakaaGreatG00
import Derived.Shelf.SlSortCmp.Whole1
import Derived.Ground.SlsfProg
import Derived.Test.YtalhnnjpjaeakaaGreatProg
namespace Go.Proofs.YtalhnnjpjaeakaaGreat
open Go.RowKit
set_option linter.unusedVariables false
set_option maxRecDepth 100000
/-- A slice of bytes, told as a pair. -/
def Gd (K : Nat → Prop) (w : World) (p : Value × List Int) : Prop := ∃ a n c, p.1 = .slice a n c ∧ Sk K w a n c p.2
theorem Gd.tou {K : Nat → Prop} {w w' : World} {g : Nat} {p : Value × List Int} (h : Gd K w p) (t : Touch g w w') (hg : ¬ K g) : Gd K w' p := by
  obtain ⟨a, n, c, h1, h2⟩ := h
  exact ⟨a, n, c, h1, h2.tou t hg⟩
theorem Touch.setCells (g : Nat) : ∀ (vs : List Value) (w : World) (o : Nat), Touch g w (w.setCells g o vs)
  | [], w, o => Touch.refl g w
  | v :: r, w, o => (Touch.setCell g w o v).trans (Touch.setCells g r _ _)
theorem ol_from41 {w : World} {ρ : Operand → Value} {o : Oper} (x y : Operand) (g off k l c l2 c2 : Nat) (ho : o.op = .slice 41 x (some y) none none) (hx : ρ x = .slice (some ⟨g, off, none⟩) l c) (hy : ρ y = .int .i64 ((k : Nat) : Int)) (hl : l = k + l2) (hc : c = k + c2) (h0 : 0 < c2) : (execOp ρ o).run Tryz.prog w = .ok (.value (.slice (some ⟨g, off + k * 1, none⟩) l2 c2)) w := by
  subst hl hc
  unfold execOp
  rw [ho]
  have h2 : k + l2 - k = l2 := by omega
  have h3 : k + c2 - k = c2 := by omega
  simp [hx, hy, Instr.sliceAt, run_underlying Tryz.underlying41, Instr.slice, Instr.sliceBounds, Instr.sliceBound, asIntOf, h2, h3, Result.andThen, addr_add]
  omega
theorem ol_to41 {w : World} {ρ : Operand → Value} {o : Oper} (x y : Operand) (g off k l c : Nat) (ho : o.op = .slice 41 x none (some y) none) (hx : ρ x = .slice (some ⟨g, off, none⟩) l c) (hy : ρ y = .int .i64 ((k : Nat) : Int)) (hk : k ≤ c) (h0 : 0 < c) : (execOp ρ o).run Tryz.prog w = .ok (.value (.slice (some ⟨g, off, none⟩) k c)) w := by
  unfold execOp
  rw [ho]
  have h1 : ¬ (c = 0) := by omega
  simp [hx, hy, Instr.sliceAt, run_underlying Tryz.underlying41, Instr.slice, Instr.sliceBounds, Instr.sliceBound, asIntOf, h1, hk, Result.andThen, addr_add]
theorem ol_clear {w : World} {ρ : Operand → Value} {o : Oper} (x : Operand) (g off l c : Nat) (cur : Array Value) (ho : o.op = .call { callee := .builtin .clear, args := #[x], argTypes := #[41] }) (hx : ρ x = .slice (some ⟨g, off, none⟩) l c) (hr : Rw g w cur 27) (hl : 0 < l) (hs : off + l ≤ cur.size) : (execOp ρ o).run Tryz.prog w = .ok (.value (.tuple #[])) (w.setCells g off (List.replicate l (.slice none 0 0))) := by
  have hrun := fun ty => Lib.run_clear_slice (P := Tryz.prog) w 41 27 ty (.slice none 0 0) Tryz.underlying41 Tryz.zeroValue27 rfl rfl g off l c hl (fun j hj => by rw [cell_of_row _ _ _ _ _ _ hr]; simp; omega) (fun j hj => frozen_of_row _ _ _ _ _ hr)
  unfold execOp
  simp only [ho, resolve, invoke, builtin, Sem.run_bind, Sem.run_pure, Result.andThen_ok, List.map_toArray, List.map_cons, List.map_nil, hx, hrun]
/-- What the row holds while its doubles go: so many are gone through, so many stay. -/
structure CI (K : Nat → Prop) (w : World) (gb n cap m : Nat) (ps : List (Value × List Int)) (m2 q : Nat) (cu : Array Value) (qs : List (Value × List Int)) (v : World) : Prop where
  r : Rw gb v cu 27
  t : Touch gb w v
  le : m + 1 + (m2 + 1) ≤ n
  sz : cu.size = cap
  ql : qs.length = q
  qm : q ≤ m + m2 + 1
  ddq : qs.map Prod.snd = dd ((ps.map Prod.snd).take (m + 1 + (m2 + 1)))
  gd : ∀ p ∈ qs, Gd K w p
  tk : cu.toList.take q = qs.map Prod.fst
  rest : ∀ j, m + m2 + 1 ≤ j → j < n → cu[j]? = (ps[j]?).map Prod.fst
theorem CI.go {K : Nat → Prop} {w : World} {gb n cap m : Nat} {ps : List (Value × List Int)} {m2 q : Nat} {cu : Array Value} {qs : List (Value × List Int)} {v v' : World} (h : CI K w gb n cap m ps m2 q cu qs v) (hb : Below v.heap.size v v') : CI K w gb n cap m ps m2 q cu qs v' :=
  ⟨h.r.go hb, h.t.trans (Touch.of_below hb), h.le, h.sz, h.ql, h.qm, h.ddq, h.gd, h.tk, h.rest⟩
theorem CI.drew {K : Nat → Prop} {w : World} {gb n cap m : Nat} {ps : List (Value × List Int)} {m2 q : Nat} {cu : Array Value} {qs : List (Value × List Int)} {v : World} (h : CI K w gb n cap m ps m2 q cu qs v) : CI K w gb n cap m ps m2 q cu qs v.drew := h.go (Below.refl _ _).drew
theorem take_two {M : List (List Int)} {i : Nat} {a b : List Int} (ha : M[i]? = some a) (hb : M[i + 1]? = some b) : M.take (i + 2) = M.take i ++ [a, b] ∧ M.take (i + 1) = M.take i ++ [a] := by
  have e1 : M.take (i + 1) = M.take i ++ [a] := by rw [List.take_add_one, ha]; rfl
  have e2 : M.take (i + 2) = M.take (i + 1) ++ [b] := by rw [List.take_add_one, hb]; rfl
  exact ⟨by rw [e2, e1]; simp, e1⟩
theorem dd_next {M : List (List Int)} {i : Nat} {a b : List Int} (ha : M[i]? = some a) (hb : M[i + 1]? = some b) : dd (M.take (i + 2)) = dd (M.take (i + 1)) ++ (if b = a then [] else [b]) := by
  obtain ⟨h1, h2⟩ := take_two ha hb
  rw [h1, h2]; exact dd_snoc _ _ _
theorem CI.start {K : Nat → Prop} {w v : World} {gb n cap m : Nat} {ps : List (Value × List Int)} {cur : Array Value} (hr : Rw gb v cur 27) (ht : Touch gb w v) (hcur : cur.toList.take n = ps.map Prod.fst) (hsz : cur.size = cap) (hn : ps.length = n) (hg : ∀ p ∈ ps, Gd K w p) (hm : m + 1 < n) (hd : dd ((ps.map Prod.snd).take (m + 1)) = (ps.map Prod.snd).take (m + 1)) {p p' : Value × List Int} (h1 : ps[m]? = some p) (h2 : ps[m + 1]? = some p') (he : p'.2 = p.2) : CI K w gb n cap m ps 0 (m + 1) cur (ps.take (m + 1)) v := by
  have hM1 : (ps.map Prod.snd)[m]? = some p.2 := by rw [List.getElem?_map, h1]; rfl
  have hM2 : (ps.map Prod.snd)[m + 1]? = some p'.2 := by rw [List.getElem?_map, h2]; rfl
  refine ⟨hr, ht, by omega, hsz, by simp; omega, by omega, ?_, fun p hp => hg p (List.mem_of_mem_take hp), ?_, fun j _ hj => ?_⟩
  · rw [show m + 1 + (0 + 1) = m + 2 from rfl, dd_next hM1 hM2, if_pos he, List.append_nil, hd, List.map_take]
  · have := congrArg (List.take (m + 1)) hcur
    rw [List.take_take, Nat.min_eq_left (by omega)] at this
    rw [this, List.map_take]
  · rw [← List.getElem?_map, ← hcur, List.getElem?_take_of_lt hj, Array.getElem?_toList]
theorem CI.keep {K : Nat → Prop} {w : World} {gb n cap m : Nat} {ps : List (Value × List Int)} {m2 q : Nat} {cu : Array Value} {qs : List (Value × List Int)} {v : World} (h : CI K w gb n cap m ps m2 q cu qs v) {p p' : Value × List Int} (h1 : ps[m + m2 + 1]? = some p) (h2 : ps[m + m2 + 1 + 1]? = some p') (hn : m + 1 + (m2 + 1) < n) (he : p'.2 = p.2) : CI K w gb n cap m ps (m2 + 1) q cu qs v := by
  have hM1 : (ps.map Prod.snd)[m + m2 + 1]? = some p.2 := by rw [List.getElem?_map, h1]; rfl
  have hM2 : (ps.map Prod.snd)[m + m2 + 1 + 1]? = some p'.2 := by rw [List.getElem?_map, h2]; rfl
  have hq := h.qm
  refine ⟨h.r, h.t, by omega, h.sz, h.ql, by omega, ?_, h.gd, h.tk, fun j hj hj2 => h.rest j (by omega) hj2⟩
  rw [show m + 1 + (m2 + 1 + 1) = m + m2 + 1 + 2 from by omega, dd_next hM1 hM2, if_pos he, List.append_nil, h.ddq, show m + 1 + (m2 + 1) = m + m2 + 1 + 1 from by omega]
theorem CI.move {K : Nat → Prop} {w : World} {gb n cap m : Nat} {ps : List (Value × List Int)} {m2 q : Nat} {cu : Array Value} {qs : List (Value × List Int)} {v v' : World} (h : CI K w gb n cap m ps m2 q cu qs v) {p p' : Value × List Int} (h1 : ps[m + m2 + 1]? = some p) (h2 : ps[m + m2 + 1 + 1]? = some p') (hn : m + 1 + (m2 + 1) < n) (hc : n ≤ cap) (he : ¬ p'.2 = p.2) (hg : Gd K w p') (hs : Set1 v v' gb q p'.1) (h11 : p'.1.oneCell' = true) : CI K w gb n cap m ps (m2 + 1) (q + 1) (cu.setIfInBounds q p'.1) (qs ++ [p']) v' := by
  have hM1 : (ps.map Prod.snd)[m + m2 + 1]? = some p.2 := by rw [List.getElem?_map, h1]; rfl
  have hM2 : (ps.map Prod.snd)[m + m2 + 1 + 1]? = some p'.2 := by rw [List.getElem?_map, h2]; rfl
  have hq := h.qm
  have hsz := h.sz
  refine ⟨h.r.set hs rfl, h.t.trans hs.touch, by omega, by simp [h.sz], by simp [h.ql], by omega, ?_, ?_, ?_, fun j hj hj2 => ?_⟩
  · rw [show m + 1 + (m2 + 1 + 1) = m + m2 + 1 + 2 from by omega, dd_next hM1 hM2, if_neg he, show m + m2 + 1 + 1 = m + 1 + (m2 + 1) from by omega, ← h.ddq, List.map_append]; rfl
  · intro x hx
    rcases List.mem_append.1 hx with hx | hx
    · exact h.gd x hx
    · rw [List.mem_singleton.1 hx]; exact hg
  · rw [Array.toList_setIfInBounds, List.take_add_one, List.map_append, ← h.tk]
    have : (cu.toList.set q p'.1)[q]? = some p'.1 := by rw [List.getElem?_set_self (by simp; omega)]
    rw [this, List.take_set_of_le (Nat.le_refl _)]; rfl
  · rw [Array.getElem?_setIfInBounds_ne (by omega)]
    exact h.rest j (by omega) hj2
theorem CI.done {K : Nat → Prop} {w : World} {gb n cap m : Nat} {ps : List (Value × List Int)} {m2 q : Nat} {cu : Array Value} {qs : List (Value × List Int)} {v : World} (h : CI K w gb n cap m ps m2 q cu qs v) (hn : ps.length = n) (hm : m + 1 + (m2 + 1) = n) (hK : ¬ K gb) (vs : List Value) : Bt K (v.setCells gb (0 + q * 1) vs) (some ⟨gb, 0, none⟩) q (dd (ps.map Prod.snd)) ∧ Touch gb w (v.setCells gb (0 + q * 1) vs) := by
  have ht := h.t.trans (Touch.setCells gb vs v (0 + q * 1))
  have hd : qs.map Prod.snd = dd (ps.map Prod.snd) := by rw [h.ddq, hm, List.take_of_length_le (by simp; omega)]
  refine ⟨⟨by rw [← hd, List.length_map, h.ql], fun j hj => ?_⟩, ht⟩
  have hjq : j < qs.length := by rw [h.ql]; exact hj
  obtain ⟨a, n', c, h1, h2⟩ := h.gd qs[j] (List.getElem_mem hjq)
  refine ⟨gb, 0, a, n', c, rfl, ?_, ?_⟩
  · rw [World.cell?_setCells_out gb vs (0 + q * 1) v _ (fun _ _ => .inl (by show 0 + j * 1 < 0 + q * 1; omega)), cell_of_row _ _ _ _ _ _ h.r, ← h1]
    have := congrArg (fun l => l[j]?) h.tk
    simp only [List.getElem?_take_of_lt hj, List.getElem?_map, List.getElem?_eq_getElem hjq, Option.map_some, Array.getElem?_toList] at this
    rw [show 0 + j * 1 = j from by omega]
    exact this
  · rw [← hd]
    have e : (qs.map Prod.snd).getD j [] = qs[j].2 := by simp [List.getD, hjq]
    rw [e]
    exact h2.tou ht hK
end Go.Proofs.YtalhnnjpjaeakaaGreat
/- A row of byte strings is rid of its doubles. -/
namespace Go.Proofs.YtalhnnjpjaeakaaGreat
open Go.RowKit
set_option linter.unusedVariables false
set_option maxRecDepth 100000
theorem row_at {K : Nat → Prop} {w : World} {n : Nat} {ps : List (Value × List Int)} {cur : Array Value} (hcur : cur.toList.take n = ps.map Prod.fst) (hn : ps.length = n) (hg : ∀ p ∈ ps, Gd K w p) {j : Nat} (hj : j < n) : ∃ a m c x, ps[j]? = some (.slice a m c, x) ∧ cur[j]? = some (.slice a m c) ∧ Sk K w a m c x := by
  have hjp : j < ps.length := by omega
  obtain ⟨a, m, c, h1, h2⟩ := hg ps[j] (List.getElem_mem hjp)
  refine ⟨a, m, c, ps[j].2, ?_, ?_, h2⟩
  · rw [List.getElem?_eq_getElem hjp, ← h1]
  · have := congrArg (fun l => l[j]?) hcur
    simp only [List.getElem?_take_of_lt hj, List.getElem?_map, List.getElem?_eq_getElem hjp, Option.map_some, Array.getElem?_toList] at this
    rw [this, h1]
theorem dd_one (M : List (List Int)) (h : 0 < M.length) : dd (M.take (0 + 1)) = M.take (0 + 1) := by
  cases M with
  | nil => rfl
  | cons x M => simp [dd, ddg]
theorem dd_short (M : List (List Int)) (h : M.length < 2) : dd M = M := by
  match M, h with
  | [], _ => rfl
  | [x], _ => rfl
theorem dd_go {ps : List (Value × List Int)} {m : Nat} {p p' : Value × List Int} (h1 : ps[m]? = some p) (h2 : ps[m + 1]? = some p') (hd : dd ((ps.map Prod.snd).take (m + 1)) = (ps.map Prod.snd).take (m + 1)) (he : ¬ p'.2 = p.2) : dd ((ps.map Prod.snd).take (m + 1 + 1)) = (ps.map Prod.snd).take (m + 1 + 1) := by
  have hM1 : (ps.map Prod.snd)[m]? = some p.2 := by rw [List.getElem?_map, h1]; rfl
  have hM2 : (ps.map Prod.snd)[m + 1]? = some p'.2 := by rw [List.getElem?_map, h2]; rfl
  rw [dd_next hM1 hM2, if_neg he, hd, List.take_add_one (i := m + 1), hM2]; rfl
theorem bt_whole {K : Nat → Prop} {w : World} {gb n : Nat} {ps : List (Value × List Int)} {cur : Array Value} (hr : Rw gb w cur 27) (hcur : cur.toList.take n = ps.map Prod.fst) (hn : ps.length = n) (hg : ∀ p ∈ ps, Gd K w p) (hd : dd (ps.map Prod.snd) = ps.map Prod.snd) : Bt K w (some ⟨gb, 0, none⟩) n (dd (ps.map Prod.snd)) := by
  rw [hd]
  refine ⟨by simp [hn], fun j hj => ?_⟩
  obtain ⟨a, m, c, x, h1, h2, h3⟩ := row_at hcur hn hg hj
  refine ⟨gb, 0, a, m, c, rfl, ?_, ?_⟩
  · rw [cell_of_row _ _ _ _ _ _ hr, show 0 + j * 1 = j from by omega]; exact h2
  · rw [List.getD, List.getElem?_map, h1]; exact h3
set_option maxHeartbeats 1000000 in
theorem compact_small {K : Nat → Prop} {w : World} {gb n cap : Nat} {ps : List (Value × List Int)} {cur : Array Value} (hr : Rw gb w cur 27) (hcur : cur.toList.take n = ps.map Prod.fst) (hsz : cur.size = cap) (hn : ps.length = n) (hle : n ≤ cap) (hg : ∀ p ∈ ps, Gd K w p) (hK : ¬ K gb) (hb : n ≤ 7600000000002) (h2 : n < 2) :
    Calls Tryz.prog 43 #[.slice (some ⟨gb, 0, none⟩) n cap, .func (.func 44) #[] #[]] w fun e w' => ∃ u, e = .returned u ∧ (fun u w' => ∃ k, u = .slice (some ⟨gb, 0, none⟩) k cap ∧ Bt K w' (some ⟨gb, 0, none⟩) k (dd (ps.map Prod.snd)) ∧ Touch gb w w') u w' := by
  have hB := Bl.refl w
  refine cw_enter Tryz.func43 rfl 66 rfl ?_
  show CW _ _ _ _ _ _ _ [(0, .slice (some ⟨gb, 0, none⟩) n cap), (1, .func (.func 44) #[] #[])] _
  refine cw_seq ?_
  refine cw_region ?_
  refine rp 4 (.slice none 0 0) ?_
  refine rw_nil ?_
  refine nw_then ?_
  refine cw_seq ?_
  refine cw_seq ?_
  refine cw_region ?_
  refine rp 8 (.slice (some ⟨gb, 0, none⟩) n cap) ?_
  refine rp 9 (.int .i64 n) ?_
  refine rv 10 (.bool true) (fun _ => ol_conv (v := .bool (decide ((n : Int) < (2 : Int)))) (by kernel_rfl) (congrArg Value.bool (decide_eq_true (by omega)))) ?_
  refine rw_nil ?_
  refine nw_then ?_
  refine cw_cond_t (fun _ => by kernel_rfl) ?_
  refine cw_seq ?_
  refine cw_region ?_
  refine rp 11 (.slice (some ⟨gb, 0, none⟩) n cap) ?_
  refine rp 4 (.slice (some ⟨gb, 0, none⟩) n cap) ?_
  refine rw_nil ?_
  refine nw_then ?_
  refine cw_ret ?_
  refine nw_ret_then ?_
  exact nw_ret_body (.slice (some ⟨gb, 0, none⟩) n cap) (fun _ => by kernel_rfl) ⟨_, rfl, n, rfl, bt_whole hr hcur hn hg (dd_short _ (by simp; omega)), Touch.refl _ _⟩
set_option maxHeartbeats 4000000 in
theorem compact_big {K : Nat → Prop} {w : World} {gb n cap : Nat} {ps : List (Value × List Int)} {cur : Array Value} (hr : Rw gb w cur 27) (hcur : cur.toList.take n = ps.map Prod.fst) (hsz : cur.size = cap) (hn : ps.length = n) (hle : n ≤ cap) (hg : ∀ p ∈ ps, Gd K w p) (hK : ¬ K gb) (hb : n ≤ 7600000000002) (h2 : ¬ n < 2) :
    Calls Tryz.prog 43 #[.slice (some ⟨gb, 0, none⟩) n cap, .func (.func 44) #[] #[]] w fun e w' => ∃ u, e = .returned u ∧ (fun u w' => ∃ k, u = .slice (some ⟨gb, 0, none⟩) k cap ∧ Bt K w' (some ⟨gb, 0, none⟩) k (dd (ps.map Prod.snd)) ∧ Touch gb w w') u w' := by
  have hB := Bl.refl w
  refine cw_enter Tryz.func43 rfl 66 rfl ?_
  show CW _ _ _ _ _ _ _ [(0, .slice (some ⟨gb, 0, none⟩) n cap), (1, .func (.func 44) #[] #[])] _
  refine cw_seq ?_
  refine cw_region ?_
  refine rp 4 (.slice none 0 0) ?_
  refine rw_nil ?_
  refine nw_then ?_
  refine cw_seq ?_
  refine cw_seq ?_
  refine cw_region ?_
  refine rp 8 (.slice (some ⟨gb, 0, none⟩) n cap) ?_
  refine rp 9 (.int .i64 n) ?_
  refine rv 10 (.bool false) (fun _ => ol_conv (v := .bool (decide ((n : Int) < (2 : Int)))) (by kernel_rfl) (congrArg Value.bool (decide_eq_false (by omega)))) ?_
  refine rw_nil ?_
  refine nw_then ?_
  refine cw_cond_f (fun _ => by kernel_rfl) ?_
  refine cw_skip ?_
  refine nw_then ?_
  refine cw_seq ?_
  refine cw_seq ?_
  refine cw_region ?_
  refine rp 5 (.int .i64 1) ?_
  refine rw_nil ?_
  refine nw_then ?_
  refine cw_block ?_
  refine cw_loop (X := Nat) (fun m => [(5, .int .i64 ((m + 1 : Nat) : Int)), (0, .slice (some ⟨gb, 0, none⟩) n cap), (1, .func (.func 44) #[] #[])]) (fun m v => Bl w v ∧ m + 1 ≤ n ∧ dd ((ps.map Prod.snd).take (m + 1)) = (ps.map Prod.snd).take (m + 1)) (fun m => n - m) 0 (by exact ⟨fun _ => by kernel_rfl, ⟨fun _ => by kernel_rfl, ⟨fun _ => by kernel_rfl, trivial⟩⟩⟩) ⟨hB, by omega, dd_one _ (by simp; omega)⟩ ?_
  clear hB
  rintro m v ⟨hB, hm, hd⟩
  by_cases hlt : m + 1 < n
  · skip
    obtain ⟨a1, n1, c1, x1, hp1, hc1, hs1⟩ := row_at hcur hn hg (show m < n from by omega)
    obtain ⟨a2, n2, c2, x2, hp2, hc2, hs2⟩ := row_at hcur hn hg hlt
    have hS : Two K K v ⟨gb, 0 + (m + 1) * 1, none⟩ ⟨gb, 0 + m * 1, none⟩ a2 a1 n2 c2 n1 c1 x2 x1 := ⟨by rw [cell_of_row _ _ _ _ _ _ (hr.go hB), show 0 + (m + 1) * 1 = m + 1 from by omega]; exact hc2, hs2.go hB, by rw [cell_of_row _ _ _ _ _ _ (hr.go hB), show 0 + m * 1 = m from by omega]; exact hc1, hs1.go hB⟩
    refine cw_seq ?_
    refine cw_seq ?_
    refine cw_region ?_
    refine rp 12 (.int .i64 ((m + 1 : Nat) : Int)) ?_
    refine rp 13 (.slice (some ⟨gb, 0, none⟩) n cap) ?_
    refine rp 14 (.int .i64 n) ?_
    refine rv 15 (.bool true) (fun _ => ol_conv (v := .bool (decide (((m + 1 : Nat) : Int) < (n : Int)))) (by kernel_rfl) (congrArg Value.bool (decide_eq_true (by omega)))) ?_
    refine rw_nil ?_
    refine nw_then ?_
    refine cw_cond_t (fun _ => by kernel_rfl) ?_
    refine cw_skip ?_
    refine nw_then ?_
    refine cw_seq ?_
    refine cw_block ?_
    refine cw_seq ?_
    refine cw_draw (fun v => Two K K v ⟨gb, 0 + (m + 1) * 1, none⟩ ⟨gb, 0 + m * 1, none⟩ a2 a1 n2 c2 n1 c1 x2 x1) (by kernel_rfl) (hS.drew) ?_
    replace hB := hB.drew
    replace hS := hS.drew
    refine dt 0 18 (.func (.func 44) #[] #[]) (fun v hv _ => by kernel_rfl) hS ?_
    refine dt 1 19 (.slice (some ⟨gb, 0, none⟩) n cap) (fun v hv _ => by kernel_rfl) hS ?_
    refine dt 2 20 (.int .i64 ((m + 1 : Nat) : Int)) (fun v hv _ => by kernel_rfl) hS ?_
    refine dt 3 21 (.pointer (some ⟨gb, 0 + (m + 1) * 1, none⟩)) (fun v hv _ => ol_index 41 _ _ gb 0 (m + 1) n cap 1 27 rfl (by kernel_rfl) (by kernel_rfl) (by omega) Tryz.underlying41 (by kernel_rfl)) hS ?_
    refine dt 4 22 (.slice a2 n2 c2) (fun v hv _ => ol_cell 27 _ _ _ _ rfl (by kernel_rfl) hv.cc Tryz.underlying27 rfl) hS ?_
    refine dt 5 23 (.slice (some ⟨gb, 0, none⟩) n cap) (fun v hv _ => by kernel_rfl) hS ?_
    refine dt 6 24 (.int .i64 ((m + 1 : Nat) : Int)) (fun v hv _ => by kernel_rfl) hS ?_
    refine dt 7 25 (.int .i64 ((m : Nat) : Int)) (fun v hv _ => ol_conv (v := .int .i64 (IntKind.i64.wrap (((m + 1 : Nat) : Int) - 1))) (by kernel_rfl) (congrArg (Value.int .i64) (by rw [wrap64 (by omega) (by omega)]; omega))) hS ?_
    refine dt 8 26 (.pointer (some ⟨gb, 0 + m * 1, none⟩)) (fun v hv _ => ol_index 41 _ _ gb 0 m n cap 1 27 rfl (by kernel_rfl) (by kernel_rfl) (by omega) Tryz.underlying41 (by kernel_rfl)) hS ?_
    refine dt 9 27 (.slice a1 n1 c1) (fun v hv _ => ol_cell 27 _ _ _ _ rfl (by kernel_rfl) hv.cc' Tryz.underlying27 rfl) hS ?_
    refine dw_ready [10] (by kernel_rfl) (by simp) ?_
    refine ar_call 10 28 44 #[.slice a2 n2 c2, .slice a1 n1 c1] rfl (fun _ => by kernel_rfl) (fun _ => by kernel_rfl) (R := fun u w' => u = .bool (decide (x2 = x1)) ∧ Bl (v.drew) w') (equal_any hS.sk hS.sk') (fun u w' h => hS.go h.2) ?_ ar_nil
    rintro _ u1 ⟨rfl, hb2⟩
    replace hB := hB.go hb2
    replace hS := hS.go hb2
    refine dw_done (by kernel_rfl) ?_
    refine nw_then ?_
    by_cases hpq : x2 = x1
    · skip
      rw [show (decide (x2 = x1)) = true from by simp [hpq]]
      refine cw_cond_t (fun _ => by kernel_rfl) ?_
      refine cw_seq ?_
      obtain ⟨l2, hl2⟩ : ∃ l2, n = m + 1 + l2 := ⟨n - (m + 1), by omega⟩
      obtain ⟨e2, he2⟩ : ∃ e2, cap = m + 1 + e2 := ⟨cap - (m + 1), by omega⟩
      have hC := CI.start (hr.go hB) (Touch.of_below hB) hcur hsz hn hg hlt hd hp1 hp2 hpq
      clear hS
      refine cw_region ?_
      refine rp 29 (.slice (some ⟨gb, 0, none⟩) n cap) ?_
      refine rp 30 (.int .i64 ((m + 1 : Nat) : Int)) ?_
      refine rv 31 (.slice (some ⟨gb, 0 + (m + 1) * 1, none⟩) l2 e2) (fun _ => ol_from41 _ _ gb 0 (m + 1) n cap l2 e2 rfl (by kernel_rfl) (by kernel_rfl) hl2 he2 (by omega)) ?_
      refine rp 6 (.slice (some ⟨gb, 0 + (m + 1) * 1, none⟩) l2 e2) ?_
      refine rw_nil ?_
      refine nw_then ?_
      refine cw_seq ?_
      refine cw_seq ?_
      refine cw_region ?_
      refine rp 7 (.int .i64 1) ?_
      refine rw_nil ?_
      refine nw_then ?_
      refine cw_block ?_
      refine cw_loop (X := Nat × Nat × Array Value × List (Value × List Int)) (fun z => [(7, .int .i64 ((z.1 + 1 : Nat) : Int)), (5, .int .i64 ((z.2.1 : Nat) : Int)), (6, .slice (some ⟨gb, 0 + (m + 1) * 1, none⟩) l2 e2), (0, .slice (some ⟨gb, 0, none⟩) n cap), (1, .func (.func 44) #[] #[])]) (fun z v => CI K w gb n cap m ps z.1 z.2.1 z.2.2.1 z.2.2.2 v) (fun z => n - z.1) (0, m + 1, cur, ps.take (m + 1)) (by exact ⟨fun _ => by kernel_rfl, ⟨fun _ => by kernel_rfl, ⟨fun _ => by kernel_rfl, ⟨fun _ => by kernel_rfl, ⟨fun _ => by kernel_rfl, trivial⟩⟩⟩⟩⟩) hC ?_
      clear hC hB hpq hs1 hs2 hp1 hp2 hc1 hc2
      rintro ⟨m2, q, cu, qs⟩ v hC
      simp only at hC
      show CW _ _ _ _ _ _ _ [(7, .int .i64 ((m2 + 1 : Nat) : Int)), (5, .int .i64 ((q : Nat) : Int)), (6, .slice (some ⟨gb, 0 + (m + 1) * 1, none⟩) l2 e2), (0, .slice (some ⟨gb, 0, none⟩) n cap), (1, .func (.func 44) #[] #[])] _
      have hle2 := hC.le
      have hqm := hC.qm
      have hcs := hC.sz
      by_cases hl3 : m2 + 1 < l2
      · skip
        obtain ⟨a3, n3, c3, x3, hp3, -, hs3⟩ := row_at hcur hn hg (show m + m2 + 1 < n from by omega)
        obtain ⟨a4, n4, c4, x4, hp4, -, hs4⟩ := row_at hcur hn hg (show m + m2 + 1 + 1 < n from by omega)
        have hc3 : cu[m + m2 + 1]? = some (.slice a3 n3 c3) := by rw [hC.rest _ (by omega) (by omega), hp3]; rfl
        have hc4 : cu[m + m2 + 1 + 1]? = some (.slice a4 n4 c4) := by rw [hC.rest _ (by omega) (by omega), hp4]; rfl
        have hS : Two K K v ⟨gb, 0 + (m + 1) * 1 + (m2 + 1) * 1, none⟩ ⟨gb, 0 + (m + 1) * 1 + m2 * 1, none⟩ a4 a3 n4 c4 n3 c3 x4 x3 := ⟨by rw [cell_of_row _ _ _ _ _ _ hC.r, show 0 + (m + 1) * 1 + (m2 + 1) * 1 = m + m2 + 1 + 1 from by omega]; exact hc4, hs4.tou hC.t hK, by rw [cell_of_row _ _ _ _ _ _ hC.r, show 0 + (m + 1) * 1 + m2 * 1 = m + m2 + 1 from by omega]; exact hc3, hs3.tou hC.t hK⟩
        refine cw_seq ?_
        refine cw_seq ?_
        refine cw_region ?_
        refine rp 32 (.int .i64 ((m2 + 1 : Nat) : Int)) ?_
        refine rp 33 (.slice (some ⟨gb, 0 + (m + 1) * 1, none⟩) l2 e2) ?_
        refine rp 34 (.int .i64 l2) ?_
        refine rv 35 (.bool true) (fun _ => ol_conv (v := .bool (decide (((m2 + 1 : Nat) : Int) < (l2 : Int)))) (by kernel_rfl) (congrArg Value.bool (decide_eq_true (by omega)))) ?_
        refine rw_nil ?_
        refine nw_then ?_
        refine cw_cond_t (fun _ => by kernel_rfl) ?_
        refine cw_skip ?_
        refine nw_then ?_
        refine cw_seq ?_
        refine cw_block ?_
        refine cw_seq ?_
        refine cw_draw (fun v => Two K K v ⟨gb, 0 + (m + 1) * 1 + (m2 + 1) * 1, none⟩ ⟨gb, 0 + (m + 1) * 1 + m2 * 1, none⟩ a4 a3 n4 c4 n3 c3 x4 x3) (by kernel_rfl) (hS.drew) ?_
        replace hC := hC.drew
        replace hS := hS.drew
        refine dt 0 38 (.func (.func 44) #[] #[]) (fun v hv _ => by kernel_rfl) hS ?_
        refine dt 1 39 (.slice (some ⟨gb, 0 + (m + 1) * 1, none⟩) l2 e2) (fun v hv _ => by kernel_rfl) hS ?_
        refine dt 2 40 (.int .i64 ((m2 + 1 : Nat) : Int)) (fun v hv _ => by kernel_rfl) hS ?_
        refine dt 3 41 (.pointer (some ⟨gb, 0 + (m + 1) * 1 + (m2 + 1) * 1, none⟩)) (fun v hv _ => ol_index 41 _ _ gb (0 + (m + 1) * 1) (m2 + 1) l2 e2 1 27 rfl (by kernel_rfl) (by kernel_rfl) (by omega) Tryz.underlying41 (by kernel_rfl)) hS ?_
        refine dt 4 42 (.slice a4 n4 c4) (fun v hv _ => ol_cell 27 _ _ _ _ rfl (by kernel_rfl) hv.cc Tryz.underlying27 rfl) hS ?_
        refine dt 5 43 (.slice (some ⟨gb, 0 + (m + 1) * 1, none⟩) l2 e2) (fun v hv _ => by kernel_rfl) hS ?_
        refine dt 6 44 (.int .i64 ((m2 + 1 : Nat) : Int)) (fun v hv _ => by kernel_rfl) hS ?_
        refine dt 7 45 (.int .i64 ((m2 : Nat) : Int)) (fun v hv _ => ol_conv (v := .int .i64 (IntKind.i64.wrap (((m2 + 1 : Nat) : Int) - 1))) (by kernel_rfl) (congrArg (Value.int .i64) (by rw [wrap64 (by omega) (by omega)]; omega))) hS ?_
        refine dt 8 46 (.pointer (some ⟨gb, 0 + (m + 1) * 1 + m2 * 1, none⟩)) (fun v hv _ => ol_index 41 _ _ gb (0 + (m + 1) * 1) m2 l2 e2 1 27 rfl (by kernel_rfl) (by kernel_rfl) (by omega) Tryz.underlying41 (by kernel_rfl)) hS ?_
        refine dt 9 47 (.slice a3 n3 c3) (fun v hv _ => ol_cell 27 _ _ _ _ rfl (by kernel_rfl) hv.cc' Tryz.underlying27 rfl) hS ?_
        refine dw_ready [10] (by kernel_rfl) (by simp) ?_
        refine ar_call 10 48 44 #[.slice a4 n4 c4, .slice a3 n3 c3] rfl (fun _ => by kernel_rfl) (fun _ => by kernel_rfl) (R := fun u w' => u = .bool (decide (x4 = x3)) ∧ Bl (v.drew) w') (equal_any hS.sk hS.sk') (fun u w' h => hS.go h.2) ?_ ar_nil
        rintro _ u3 ⟨rfl, hb4⟩
        replace hC := hC.go hb4
        replace hS := hS.go hb4
        refine dt 11 49 (.bool (!(decide (x4 = x3)))) (fun v hv _ => by kernel_rfl) hS ?_
        refine dw_done (by kernel_rfl) ?_
        refine nw_then ?_
        by_cases hpz : x4 = x3
        · skip
          rw [show (!(decide (x4 = x3))) = false from by simp [hpz]]
          refine cw_cond_f (fun _ => by kernel_rfl) ?_
          refine cw_skip ?_
          refine nw_block ?_
          refine nw_then ?_
          refine cw_region ?_
          refine rp 36 (.int .i64 ((m2 + 1 : Nat) : Int)) ?_
          refine rv 37 (.int .i64 ((m2 + 1 + 1 : Nat) : Int)) (fun _ => ol_conv (v := .int .i64 (IntKind.i64.wrap (((m2 + 1 : Nat) : Int) + 1))) (by kernel_rfl) (congrArg (Value.int .i64) (by rw [wrap64 (by omega) (by omega)]; omega))) ?_
          refine rp 7 (.int .i64 ((m2 + 1 + 1 : Nat) : Int)) ?_
          refine rw_nil ?_
          exact nw_round (E := fun z => [(7, .int .i64 ((z.1 + 1 : Nat) : Int)), (5, .int .i64 ((z.2.1 : Nat) : Int)), (6, .slice (some ⟨gb, 0 + (m + 1) * 1, none⟩) l2 e2), (0, .slice (some ⟨gb, 0, none⟩) n cap), (1, .func (.func 44) #[] #[])]) (R := fun z v => CI K w gb n cap m ps z.1 z.2.1 z.2.2.1 z.2.2.2 v) (μ := fun z => n - z.1) (x := (m2, q, cu, qs)) (m2 + 1, q, cu, qs) (by exact ⟨fun _ => by kernel_rfl, ⟨fun _ => by kernel_rfl, ⟨fun _ => by kernel_rfl, ⟨fun _ => by kernel_rfl, ⟨fun _ => by kernel_rfl, trivial⟩⟩⟩⟩⟩) (hC.keep hp3 hp4 (by omega) hpz) (by show n - (m2 + 1) < n - m2; omega)
        · skip
          rw [show (!(decide (x4 = x3))) = true from by simp [hpz]]
          refine cw_cond_t (fun _ => by kernel_rfl) ?_
          refine cw_seq ?_
          refine cw_region ?_
          refine rp 50 (.slice (some ⟨gb, 0, none⟩) n cap) ?_
          refine rp 51 (.int .i64 ((q : Nat) : Int)) ?_
          refine rp 52 (.slice (some ⟨gb, 0 + (m + 1) * 1, none⟩) l2 e2) ?_
          refine rp 53 (.int .i64 ((m2 + 1 : Nat) : Int)) ?_
          refine rv 54 (.pointer (some ⟨gb, 0 + (m + 1) * 1 + (m2 + 1) * 1, none⟩)) (fun _ => ol_index 41 _ _ gb (0 + (m + 1) * 1) (m2 + 1) l2 e2 1 27 rfl (by kernel_rfl) (by kernel_rfl) (by omega) Tryz.underlying41 (by kernel_rfl)) ?_
          refine rv 55 (.slice a4 n4 c4) (fun _ => ol_cell 27 _ _ _ _ rfl (by kernel_rfl) hS.cc Tryz.underlying27 rfl) ?_
          refine rv 56 (.pointer (some ⟨gb, 0 + q * 1, none⟩)) (fun _ => ol_index 41 _ _ gb 0 q n cap 1 27 rfl (by kernel_rfl) (by kernel_rfl) (by omega) Tryz.underlying41 (by kernel_rfl)) ?_
          refine rw_set1 gb (0 + q * 1) (.slice a4 n4 c4) (fun _ => by kernel_rfl) (fun _ => ol_setC 27 _ _ gb (0 + q * 1) _ _ _ hC.r rfl (by kernel_rfl) (by kernel_rfl) (by omega) rfl rfl (by kernel_rfl)) ?_
          intro w5 hset
          replace hset : Set1 u3 w5 gb q (.slice a4 n4 c4) := by rw [show 0 + q * 1 = q from by omega] at hset; exact hset
          replace hC := hC.move hp3 hp4 (by omega) (by omega) hpz ⟨_, _, _, rfl, hs4⟩ hset rfl
          clear hS
          refine rw_nil ?_
          refine nw_then ?_
          refine cw_region ?_
          refine rp 57 (.int .i64 ((q : Nat) : Int)) ?_
          refine rv 58 (.int .i64 ((q + 1 : Nat) : Int)) (fun _ => ol_conv (v := .int .i64 (IntKind.i64.wrap (((q : Nat) : Int) + 1))) (by kernel_rfl) (congrArg (Value.int .i64) (by rw [wrap64 (by omega) (by omega)]; omega))) ?_
          refine rp 5 (.int .i64 ((q + 1 : Nat) : Int)) ?_
          refine rw_nil ?_
          refine nw_block ?_
          refine nw_then ?_
          refine cw_region ?_
          refine rp 36 (.int .i64 ((m2 + 1 : Nat) : Int)) ?_
          refine rv 37 (.int .i64 ((m2 + 1 + 1 : Nat) : Int)) (fun _ => ol_conv (v := .int .i64 (IntKind.i64.wrap (((m2 + 1 : Nat) : Int) + 1))) (by kernel_rfl) (congrArg (Value.int .i64) (by rw [wrap64 (by omega) (by omega)]; omega))) ?_
          refine rp 7 (.int .i64 ((m2 + 1 + 1 : Nat) : Int)) ?_
          refine rw_nil ?_
          exact nw_round (E := fun z => [(7, .int .i64 ((z.1 + 1 : Nat) : Int)), (5, .int .i64 ((z.2.1 : Nat) : Int)), (6, .slice (some ⟨gb, 0 + (m + 1) * 1, none⟩) l2 e2), (0, .slice (some ⟨gb, 0, none⟩) n cap), (1, .func (.func 44) #[] #[])]) (R := fun z v => CI K w gb n cap m ps z.1 z.2.1 z.2.2.1 z.2.2.2 v) (μ := fun z => n - z.1) (x := (m2, q, cu, qs)) (m2 + 1, q + 1, cu.setIfInBounds q (.slice a4 n4 c4), qs ++ [(.slice a4 n4 c4, x4)]) (by exact ⟨fun _ => by kernel_rfl, ⟨fun _ => by kernel_rfl, ⟨fun _ => by kernel_rfl, ⟨fun _ => by kernel_rfl, ⟨fun _ => by kernel_rfl, trivial⟩⟩⟩⟩⟩) hC (by show n - (m2 + 1) < n - m2; omega)
      have hfin : m + 1 + (m2 + 1) = n := by omega
      refine cw_seq ?_
      refine cw_seq ?_
      refine cw_region ?_
      refine rp 32 (.int .i64 ((m2 + 1 : Nat) : Int)) ?_
      refine rp 33 (.slice (some ⟨gb, 0 + (m + 1) * 1, none⟩) l2 e2) ?_
      refine rp 34 (.int .i64 l2) ?_
      refine rv 35 (.bool false) (fun _ => ol_conv (v := .bool (decide (((m2 + 1 : Nat) : Int) < (l2 : Int)))) (by kernel_rfl) (congrArg Value.bool (decide_eq_false (by omega)))) ?_
      refine rw_nil ?_
      refine nw_then ?_
      refine cw_cond_f (fun _ => by kernel_rfl) ?_
      refine cw_exit ?_
      refine nw_exit_then ?_
      refine nw_exit_then ?_
      refine nw_exit_here ?_
      refine nw_then ?_
      refine cw_seq ?_
      obtain ⟨l3, hl4⟩ : ∃ l3, n = q + l3 := ⟨n - q, by omega⟩
      obtain ⟨e3, he3⟩ : ∃ e3, cap = q + e3 := ⟨cap - q, by omega⟩
      refine cw_region ?_
      refine rp 59 (.slice (some ⟨gb, 0, none⟩) n cap) ?_
      refine rp 60 (.int .i64 ((q : Nat) : Int)) ?_
      refine rv 61 (.slice (some ⟨gb, 0 + q * 1, none⟩) l3 e3) (fun _ => ol_from41 _ _ gb 0 q n cap l3 e3 rfl (by kernel_rfl) (by kernel_rfl) hl4 he3 (by omega)) ?_
      have hF := hC.done hn hfin hK (List.replicate l3 (.slice none 0 0))
      refine rw_n (.tuple #[]) (w' := World.setCells v gb (0 + q * 1) (List.replicate l3 (.slice none 0 0))) (fun _ => by kernel_rfl) (fun _ => ol_clear _ gb (0 + q * 1) l3 e3 _ rfl (by kernel_rfl) hC.r (by omega) (by omega)) ?_
      generalize World.setCells v gb (0 + q * 1) (List.replicate l3 (.slice none 0 0)) = wF at hF ⊢
      refine rw_nil ?_
      refine nw_then ?_
      refine cw_seq ?_
      refine cw_region ?_
      refine rp 62 (.slice (some ⟨gb, 0, none⟩) n cap) ?_
      refine rp 63 (.int .i64 ((q : Nat) : Int)) ?_
      refine rv 64 (.slice (some ⟨gb, 0, none⟩) q cap) (fun _ => ol_to41 _ _ gb 0 q n cap rfl (by kernel_rfl) (by kernel_rfl) (by omega) (by omega)) ?_
      refine rp 4 (.slice (some ⟨gb, 0, none⟩) q cap) ?_
      refine rw_nil ?_
      refine nw_then ?_
      refine cw_ret ?_
      refine nw_ret_block ?_
      refine nw_ret_then ?_
      refine nw_ret_then ?_
      refine nw_ret_block ?_
      refine nw_ret_then ?_
      exact nw_ret_body (.slice (some ⟨gb, 0, none⟩) q cap) (fun _ => by kernel_rfl) ⟨_, rfl, q, rfl, hF.1, hF.2⟩
    · skip
      rw [show (decide (x2 = x1)) = false from by simp [hpq]]
      refine cw_cond_f (fun _ => by kernel_rfl) ?_
      refine cw_skip ?_
      refine nw_block ?_
      refine nw_then ?_
      refine cw_region ?_
      refine rp 16 (.int .i64 ((m + 1 : Nat) : Int)) ?_
      refine rv 17 (.int .i64 ((m + 1 + 1 : Nat) : Int)) (fun _ => ol_conv (v := .int .i64 (IntKind.i64.wrap (((m + 1 : Nat) : Int) + 1))) (by kernel_rfl) (congrArg (Value.int .i64) (by rw [wrap64 (by omega) (by omega)]; omega))) ?_
      refine rp 5 (.int .i64 ((m + 1 + 1 : Nat) : Int)) ?_
      refine rw_nil ?_
      exact nw_round (E := fun m => [(5, .int .i64 ((m + 1 : Nat) : Int)), (0, .slice (some ⟨gb, 0, none⟩) n cap), (1, .func (.func 44) #[] #[])]) (R := fun m v => Bl w v ∧ m + 1 ≤ n ∧ dd ((ps.map Prod.snd).take (m + 1)) = (ps.map Prod.snd).take (m + 1)) (μ := fun m => n - m) (x := m) (m + 1) (by exact ⟨fun _ => by kernel_rfl, ⟨fun _ => by kernel_rfl, ⟨fun _ => by kernel_rfl, trivial⟩⟩⟩) ⟨hB, by omega, dd_go hp1 hp2 hd hpq⟩ (by show n - (m + 1) < n - m; omega)
  obtain rfl : m + 1 = n := by omega
  refine cw_seq ?_
  refine cw_seq ?_
  refine cw_region ?_
  refine rp 12 (.int .i64 ((m + 1 : Nat) : Int)) ?_
  refine rp 13 (.slice (some ⟨gb, 0, none⟩) (m + 1) cap) ?_
  refine rp 14 (.int .i64 (m + 1)) ?_
  refine rv 15 (.bool false) (fun _ => ol_conv (v := .bool (decide (((m + 1 : Nat) : Int) < (m + 1 : Int)))) (by kernel_rfl) (congrArg Value.bool (decide_eq_false (by omega)))) ?_
  refine rw_nil ?_
  refine nw_then ?_
  refine cw_cond_f (fun _ => by kernel_rfl) ?_
  refine cw_exit ?_
  refine nw_exit_then ?_
  refine nw_exit_then ?_
  refine nw_exit_here ?_
  refine nw_then ?_
  refine cw_seq ?_
  refine cw_region ?_
  refine rp 65 (.slice (some ⟨gb, 0, none⟩) (m + 1) cap) ?_
  refine rp 4 (.slice (some ⟨gb, 0, none⟩) (m + 1) cap) ?_
  refine rw_nil ?_
  refine nw_then ?_
  refine cw_ret ?_
  exact nw_ret_body (.slice (some ⟨gb, 0, none⟩) (m + 1) cap) (fun _ => by kernel_rfl) ⟨_, rfl, m + 1, rfl, (bt_whole hr hcur hn hg (by rw [← hn, ← List.length_map (f := Prod.snd), List.take_length] at hd; exact hd)).go hB, Touch.of_below hB⟩
theorem compact_any {K : Nat → Prop} {w : World} {gb n cap : Nat} {ps : List (Value × List Int)} {cur : Array Value} (hr : Rw gb w cur 27) (hcur : cur.toList.take n = ps.map Prod.fst) (hsz : cur.size = cap) (hn : ps.length = n) (hle : n ≤ cap) (hg : ∀ p ∈ ps, Gd K w p) (hK : ¬ K gb) (hb : n ≤ 7600000000002) :
    Calls Tryz.prog 43 #[.slice (some ⟨gb, 0, none⟩) n cap, .func (.func 44) #[] #[]] w fun e w' => ∃ u, e = .returned u ∧ (fun u w' => ∃ k, u = .slice (some ⟨gb, 0, none⟩) k cap ∧ Bt K w' (some ⟨gb, 0, none⟩) k (dd (ps.map Prod.snd)) ∧ Touch gb w w') u w' := by
  by_cases h2 : n < 2
  · exact compact_small hr hcur hsz hn hle hg hK hb h2
  · exact compact_big hr hcur hsz hn hle hg hK hb h2
end Go.Proofs.YtalhnnjpjaeakaaGreat
/- The shelf's sort, laid at this program. -/
namespace Go.Proofs.YtalhnnjpjaeakaaGreat
open Go.Shelf
def sortB_ren : Go.Shelf.Ren := ⟨fun | 6 => 41 | 15 => 61 | 14 => 60 | 28 => 94 | 29 => 95 | 20 => 86 | 21 => 87 | 22 => 88 | 23 => 89 | 24 => 90 | 25 => 91 | 26 => 92 | 27 => 93 | 46 => 120 | 47 => 121 | 48 => 122 | 49 => 123 | 50 => 124 | 57 => 139 | n => n, fun | 22 => 41 | 24 => 27 | 25 => 84 | 3 => 3 | 39 => 100 | 0 => 0 | 53 => 153 | 55 => 112 | 4 => 4 | 46 => 147 | 45 => 146 | 50 => 76 | 5 => 5 | 9 => 9 | 66 => 169 | 70 => 173 | 76 => 187 | 77 => 188 | n => n, fun | n => n⟩
theorem sortB : Go.Proofs.SlLaysF.n6 Tryz.prog sortB_ren := {
  mixed := by kernel_rfl
  f6 := ⟨Tryz.f41.name, by decide, Tryz.func41.trans (congrArg some (by kernel_rfl))⟩
  f14 := ⟨Tryz.f60.name, by decide, Tryz.func60.trans (congrArg some (by kernel_rfl))⟩
  f15 := Tryz.func61.trans (congrArg some (by kernel_rfl))
  f20 := ⟨Tryz.f86.name, by decide, Tryz.func86.trans (congrArg some (by kernel_rfl))⟩
  f21 := ⟨Tryz.f87.name, by decide, Tryz.func87.trans (congrArg some (by kernel_rfl))⟩
  f22 := ⟨Tryz.f88.name, by decide, Tryz.func88.trans (congrArg some (by kernel_rfl))⟩
  f23 := ⟨Tryz.f89.name, by decide, Tryz.func89.trans (congrArg some (by kernel_rfl))⟩
  f24 := ⟨Tryz.f90.name, by decide, Tryz.func90.trans (congrArg some (by kernel_rfl))⟩
  f25 := ⟨Tryz.f91.name, by decide, Tryz.func91.trans (congrArg some (by kernel_rfl))⟩
  f26 := ⟨Tryz.f92.name, by decide, Tryz.func92.trans (congrArg some (by kernel_rfl))⟩
  f27 := ⟨Tryz.f93.name, by decide, Tryz.func93.trans (congrArg some (by kernel_rfl))⟩
  f28 := Tryz.func94.trans (congrArg some (by kernel_rfl))
  f29 := Tryz.func95.trans (congrArg some (by kernel_rfl))
  f46 := ⟨Tryz.f120.name, by decide, Tryz.func120.trans (congrArg some (by kernel_rfl))⟩
  f47 := Tryz.func121.trans (congrArg some (by kernel_rfl))
  f48 := Tryz.func122.trans (congrArg some (by kernel_rfl))
  f49 := ⟨Tryz.f123.name, by decide, Tryz.func123.trans (congrArg some (by kernel_rfl))⟩
  f50 := ⟨Tryz.f124.name, by decide, Tryz.func124.trans (congrArg some (by kernel_rfl))⟩
  f57 := ⟨Tryz.f139.name, by decide, Tryz.func139.trans (congrArg some (by kernel_rfl))⟩
  t0 := Tryz.underlying0
  a0 := Tryz.isAgg0
  z0 := Tryz.sizeOf0
  v0 := Tryz.zeroValue0
  t3 := Tryz.underlying3
  a3 := Tryz.isAgg3
  z3 := Tryz.sizeOf3
  v3 := Tryz.zeroValue3
  t4 := Tryz.underlying4
  a4 := Tryz.isAgg4
  z4 := Tryz.sizeOf4
  v4 := Tryz.zeroValue4
  t5 := Tryz.underlying5
  a5 := Tryz.isAgg5
  z5 := Tryz.sizeOf5
  v5 := Tryz.zeroValue5
  t9 := Tryz.underlying9
  a9 := Tryz.isAgg9
  z9 := Tryz.sizeOf9
  v9 := Tryz.zeroValue9
  t22 := Tryz.underlying41
  a22 := Tryz.isAgg41
  z22 := Tryz.sizeOf41
  v22 := Tryz.zeroValue41
  a24 := Tryz.isAgg27
  z24 := Tryz.sizeOf27
  t25 := Tryz.underlying84
  a25 := Tryz.isAgg84
  z25 := Tryz.sizeOf84
  v25 := Tryz.zeroValue84
  t39 := Tryz.underlying100
  a39 := Tryz.isAgg100
  z39 := Tryz.sizeOf100
  v39 := Tryz.zeroValue100
  t45 := Tryz.underlying146
  a45 := Tryz.isAgg146
  z45 := Tryz.sizeOf146
  v45 := Tryz.zeroValue146
  t46 := Tryz.underlying147
  a46 := Tryz.isAgg147
  z46 := Tryz.sizeOf147
  v46 := Tryz.zeroValue147
  t50 := Tryz.underlying76
  a50 := Tryz.isAgg76
  z50 := Tryz.sizeOf76
  v50 := Tryz.zeroValue76
  t53 := Tryz.underlying153
  a53 := Tryz.isAgg153
  z53 := Tryz.sizeOf153
  v53 := Tryz.zeroValue153
  t55 := Tryz.underlying112
  a55 := Tryz.isAgg112
  z55 := Tryz.sizeOf112
  v55 := Tryz.zeroValue112
  t66 := Tryz.underlying169
  a66 := Tryz.isAgg169
  z66 := Tryz.sizeOf169
  v66 := Tryz.zeroValue169
  t70 := Tryz.underlying173
  a70 := Tryz.isAgg173
  z70 := Tryz.sizeOf173
  v70 := Tryz.zeroValue173
  t76 := Tryz.underlying187
  a76 := Tryz.isAgg187
  z76 := Tryz.sizeOf187
  v76 := Tryz.zeroValue187
  t77 := Tryz.underlying188
  a77 := Tryz.isAgg188
  z77 := Tryz.sizeOf188
  v77 := Tryz.zeroValue188 }
end Go.Proofs.YtalhnnjpjaeakaaGreat
/- The sort of byte strings. -/
namespace Go.Proofs.YtalhnnjpjaeakaaGreat
open Go.RowKit Go.Proofs
open Go.Sort (Holds putRow putCells)
open Ni (lessP less_one)
set_option linter.unusedVariables false
set_option maxRecDepth 100000
abbrev Gp (K : Nat → Prop) (w : World) : Type := {p : Value × List Int // Gd K w p}
def encQ {K : Nat → Prop} {w : World} (x : Gp K w) : Value := x.1.1
def ordQ {K : Nat → Prop} {w : World} (x y : Gp K w) : Int := cmpP x.1.2 y.1.2
theorem ordP_lt {K : Nat → Prop} {w : World} (x y : Gp K w) : Go.Proofs.ltOf ordQ x y = lessP x.1.2 y.1.2 := cmp_lt _ _
theorem swoP (K : Nat → Prop) (w : World) : Sort.SWO (Go.Proofs.ltOf (ordQ (K := K) (w := w))) := ⟨fun x => by rw [ordP_lt]; exact less_irr _, fun x y z h1 h2 => by rw [ordP_lt] at *; exact less_trans _ _ _ h1 h2, fun x y z h1 h2 => by
  rw [ordP_lt] at *
  cases hq : lessP x.1.2 z.1.2 with
  | false => rfl
  | true =>
    by_cases e : x.1.2 = y.1.2
    · rw [e] at hq; rw [hq] at h2; cases h2
    · have h3 := less_tot x.1.2 y.1.2 e h1
      have h4 := less_trans _ _ _ h3 hq
      rw [h4] at h2; cases h2⟩
theorem mapBlock_other (w : World) (b k : Nat) (f : Array Value → Array Value) (h : k ≠ b) : (Sort.mapBlock w b f).heap[k]? = w.heap[k]? := by
  unfold Sort.mapBlock
  simp [Array.getElem?_modify, Ne.symm h]
theorem sortW_touch {α : Type} [Inhabited α] (enc : α → Value) (w : World) (gb nn : Nat) (d : Array α) (os : Array Obj) : Touch gb w (sortWorld enc w gb 0 nn d os) := by
  refine ⟨rfl, rfl, rfl, ?_, fun k hk hne => ?_⟩
  · simp [sortWorld, putRow, Sort.mapBlock, Sort.grow, Sort.ahead]
  · show ((putRow enc (Sort.ahead w nn) gb 0 d).heap ++ os)[k]? = w.heap[k]?
    have hsz2 : (putRow enc (Sort.ahead w nn) gb 0 d).heap.size = w.heap.size := by simp [putRow, Sort.mapBlock, Sort.ahead]
    rw [Array.getElem?_append_left (by rw [hsz2]; exact hk)]
    exact mapBlock_other (Sort.ahead w nn) gb k _ hne
theorem sortW_row {α : Type} [Inhabited α] (enc : α → Value) (w : World) (gb nn : Nat) (d : Array α) (os : Array Obj) {cur : Array Value} {T : TypeId} (h : Rw gb w cur T) : Rw gb (sortWorld enc w gb 0 nn d os) (putCells enc 0 d cur) T := by
  show ((putRow enc (Sort.ahead w nn) gb 0 d).heap ++ os)[gb]? = _
  have hsz2 : (putRow enc (Sort.ahead w nn) gb 0 d).heap.size = w.heap.size := by simp [putRow, Sort.mapBlock, Sort.ahead]
  rw [Array.getElem?_append_left (by rw [hsz2]; exact lt_of_get h)]
  unfold Rw at h
  have h' : (Sort.ahead w nn).heap[gb]? = some (.cells cur T (0, 0)) := h
  simp only [putRow, Sort.mapBlock, Array.getElem?_modify, h', Option.map_some, ↓reduceIte]
  rfl
theorem sort_bytes {K : Nat → Prop} {w : World} {gb n cap : Nat} {ps : List (Value × List Int)} {cur : Array Value} (hr : Rw gb w cur 27) (hcur : cur.toList.take n = ps.map Prod.fst) (hsz : cur.size = cap) (hn : ps.length = n) (hle : n ≤ cap) (hg : ∀ p ∈ ps, Gd K w p) (hK : ¬ K gb) (h0 : 0 < n) (hb : n ≤ 7600000000002) :
    Calls Tryz.prog 41 #[.slice (some ⟨gb, 0, none⟩) n cap, .func (.func 42) #[] #[]] w fun e w' => ∃ u, e = .returned u ∧ (fun u w' => u = .tuple #[] ∧ (∃ (ps' : List (Value × List Int)) (cur' : Array Value), ps'.Perm ps ∧ ps'.Pairwise (fun p q => lessP q.2 p.2 = false) ∧ Rw gb w' cur' 27 ∧ cur'.toList.take n = ps'.map Prod.fst ∧ cur'.size = cap) ∧ Touch gb w w') u w' := by
  obtain ⟨xs, hxs⟩ : ∃ xs : List (Gp K w), xs.map Subtype.val = ps := ⟨ps.pmap Subtype.mk hg, by simp [List.map_pmap]⟩
  have hxl : xs.length = n := by rw [← hn, ← hxs, List.length_map]
  have x0 : Gp K w := xs[0]'(by omega)
  haveI : Inhabited (Gp K w) := ⟨x0⟩
  have hsx : xs.toArray.size = n := by simp [hxl]
  have hcell : ∀ j (hj : j < n), cur[j]? = some (encQ (xs[j]'(by omega))) := by
    intro j hj
    have := congrArg (fun l => l[j]?) hcur
    rw [← hxs] at this
    simp only [List.getElem?_take_of_lt hj, List.map_map, List.getElem?_map, Array.getElem?_toList, List.getElem?_eq_getElem (show j < xs.length by omega), Option.map_some] at this
    exact this
  have hH : Holds encQ w gb 0 xs.toArray := by
    intro j hj
    rw [hsx] at hj
    refine ⟨?_, frozen_of_row _ _ _ _ _ hr⟩
    rw [cell_of_row _ _ _ _ _ _ hr, Nat.zero_add, hcell j hj]
    have : xs.toArray[j]! = xs[j]'(by omega) := by simp [hxl, hj]
    rw [this]
  have hcon := Go.Proofs.Any.slices_SortFunc sortB (encQ (K := K) (w := w)) (fun x => by
      obtain ⟨⟨v, b⟩, a, m, c, e, hs⟩ := x
      show v.oneCell' = true
      rw [show v = .slice a m c from e]; rfl) ordQ (swoP K w) 42 #[] gb 0 cap xs.toArray w (fun args w => by kernel_rfl)
    (fun mm os dk _ x y => by
      obtain ⟨⟨v, b⟩, a, m, c, e, hs⟩ := x
      obtain ⟨⟨v2, b2⟩, a2, m2, c2, e2, hs2⟩ := y
      have ht := sortW_touch (encQ (K := K) (w := w)) w gb mm dk os
      have h1 := bcmp_any (hs.tou ht hK) (hs2.tou ht hK)
      have e : v = .slice a m c := e
      have e2 : v2 = .slice a2 m2 c2 := e2
      subst e e2
      refine (show Calls Tryz.prog 42 (#[.slice a m c, .slice a2 m2 c2] ++ #[]) _ _ from h1).mono ?_
      rintro e w' ⟨rfl, rfl⟩
      exact ⟨rfl, 0, #[], by simp [Sort.grow, World.drewN]⟩) hH (lt_of_get hr) (by rw [hsx]; omega)
  rw [hsx] at hcon
  refine (show Calls Tryz.prog 41 #[.slice (some ⟨gb, 0, none⟩) n cap, .func (.func 42) #[] #[]] w _ from hcon).mono ?_
  rintro e w' ⟨rfl, d', nn, os, hp, hs, rfl⟩
  have hps : d'.size = n := by rw [hp.1, hsx]
  refine ⟨_, rfl, rfl, ⟨d'.toList.map Subtype.val, putCells encQ 0 d' cur, ?_, ?_, sortW_row _ _ _ _ _ _ hr, ?_, ?_⟩, sortW_touch _ _ _ _ _ _⟩
  · have := hp.2.2
    rw [show d'.extract 0 n = d' from by rw [← hps]; simp, show xs.toArray.extract 0 n = xs.toArray from by rw [← hsx]; simp] at this
    rw [← hxs]
    exact this.map _
  · rw [List.pairwise_map, List.pairwise_iff_getElem]
    intro i j hi hj hij
    simp at hi hj
    have h1 := hs i j (Nat.zero_le _) hij (by omega)
    rw [ordP_lt] at h1
    simp only [hi, hj, getElem!_pos] at h1
    simpa using h1
  · apply List.ext_getElem?
    intro j
    by_cases hj : j < n
    · rw [List.getElem?_take_of_lt hj, Array.getElem?_toList]
      have hc : j < cur.size := by omega
      simp only [putCells, Array.getElem?_mapIdx, Array.getElem?_eq_getElem hc, Option.map_some, List.map_map, List.getElem?_map, Array.getElem?_toList]
      rw [if_pos ⟨Nat.zero_le _, by omega⟩, Nat.sub_zero, getElem!_pos d' j (by omega), Array.getElem?_eq_getElem (show j < d'.size by omega)]
      rfl
    · rw [List.getElem?_eq_none (by simp; omega), List.getElem?_eq_none (by simp; omega)]
  · simp [putCells, hsz]
end Go.Proofs.YtalhnnjpjaeakaaGreat

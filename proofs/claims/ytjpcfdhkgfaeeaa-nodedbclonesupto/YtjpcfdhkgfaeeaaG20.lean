/- The order that the sort asks, with what it leaves behind; the sort; a store's List. -/
import Derived.Test.YtjpcfdhkgfaeeaaG19
import Derived.Test.YtjpcfdhkgfaeeaaG14
import Derived.Shelf.SlSortCmp.WholeK
namespace Go.Proofs.Ytjpcfdhkgfaeeaa
open Go.RowKit
set_option linter.unusedVariables false
set_option maxRecDepth 100000
/-- The world has grown, and asked its tape; no more. -/
def Grw (w w' : World) : Prop := ∃ q os, w' = Sort.grow (w.drewN q) os
theorem Grw.refl (w : World) : Grw w w := ⟨0, #[], by simp [Sort.grow, World.drewN]⟩
theorem Grw.new {w w' : World} {g : Nat} {cells : Array Value} {T : TypeId} (h : New w w' g cells T) : Grw w w' := ⟨0, #[.cells cells T], by rw [h.hw, Sort.alloc_eq_grow]; rfl⟩
theorem Grw.trans {a b c : World} (h : Grw a b) (k : Grw b c) : Grw a c := by
  obtain ⟨q, os, rfl⟩ := h
  obtain ⟨q2, os2, rfl⟩ := k
  exact ⟨q + q2, os ++ os2, by simp [Sort.grow, World.drewN, Array.append_assoc, Nat.add_assoc]⟩
theorem Grw.below {w w' : World} (h : Grw w w') : Below w.heap.size w w' := by
  obtain ⟨q, os, rfl⟩ := h
  refine ⟨rfl, rfl, rfl, by simp [Sort.grow, World.drewN], fun k hk => ?_⟩
  show (w.heap ++ os)[k]? = w.heap[k]?
  rw [Array.getElem?_append_left hk]
theorem ol_indexA {P : Program} {ρ : Operand → Value} {w : World} {o : Oper} (T : TypeId) (x y : Operand) (a i : Value) {v : Value} (ho : o.op = .index T x y) (hx : ρ x = a) (hy : ρ y = i) (hr : (Instr.index T a i).run P w = .ok v w) : (execOp ρ o).run P w = .ok (.value v) w := by
  unfold execOp
  rw [ho]
  simp only [hx, hy, Sem.run_bind, hr, Result.andThen_ok, Sem.run_pure]
/-- An element's place in an array. -/
theorem ol_indexP {P : Program} {ρ : Operand → Value} {w : World} {o : Oper} (T : TypeId) (x y : Operand) (g off j len sz : Nat) (E : TypeId) (ho : o.op = .indexAddr T x y) (hx : ρ x = .pointer (some ⟨g, off, none⟩)) (hy : ρ y = .int .i64 j) (hj : j < len) (h2 : 1 < len) (hu : P.underlying T = some (.array len E)) (hi : (P.info? E).map (·.size) = some sz) :
    (execOp ρ o).run P w = .ok (.value (.pointer (some ⟨g, off + j * sz, none⟩))) w := by
  have hs : (sizeOf E).run P w = .ok sz w := by
    cases hq : P.info? E with
    | none => simp [hq] at hi
    | some z => simp [hq] at hi; simp [sizeOf, typeInfo, hq, hi]
  unfold execOp
  rw [ho]
  simp only [hx, hy]
  have he : (if j * sz = 0 then (⟨g, off, none⟩ : Addr) else ⟨g, off + j * sz, none⟩) = ⟨g, off + j * sz, none⟩ := by split <;> simp_all
  simp [Instr.indexAt, asIntOf, run_underlying hu, hs, hj, Result.andThen, Addr.add, he, Instr.sureAddr]
set_option maxHeartbeats 400000 in
theorem less_grw (xs ys : List Int) (hx : xs.length = 32) (hy : ys.length = 32) (w : World) :
    Calls Try.prog 40 #[.agg (B8 xs), .agg (B8 ys)] w fun e w' => e = .returned (.bool (Di.lt32 xs ys)) ∧ Grw w w' := by
  refine cw_enter Try.func40 rfl 23 rfl ?_
  show CW _ _ _ _ _ _ _ [(0, .agg (B8 xs)), (1, .agg (B8 ys))] _
  refine cw_seq ?_
  refine cw_region ?_
  refine rw_new 2 (B8 xs) 30 (fun _ => by kernel_rfl) (fun _ => by kernel_rfl) ?_
  intro w1 g2 hn3
  refine rw_new 3 (B8 ys) 30 (fun _ => by kernel_rfl) (fun _ => by kernel_rfl) ?_
  intro w4 g5 hn6
  refine rw_p 4 (.bool false) (fun _ => by kernel_rfl) (fun _ => by kernel_rfl) ?_
  refine rw_nil ?_
  have hX := Below.row hn6.below hn3.row
  have hY := hn6.row
  have hG := (Grw.new hn3).trans (Grw.new hn6)
  refine nw_then ?_
  refine cw_seq ?_
  refine cw_seq ?_
  refine cw_region ?_
  refine rw_p 7 (.agg (B8 xs)) (fun _ => by kernel_rfl) (fun _ => ol_row 30 _ _ _ _ _ _ rfl (by kernel_rfl) hX Try.underlying30 rfl (infoD xs hx)) ?_
  refine rw_p 8 (.int .i64 0) (fun _ => by kernel_rfl) (fun _ => by kernel_rfl) ?_
  refine rw_nil ?_
  refine nw_then ?_
  refine cw_block ?_
  refine cw_loop (X := Nat) (fun k => [(3, .pointer (some ⟨g5, 0, none⟩)), (7, .agg (B8 xs)), (8, .int .i64 ((k : Nat) : Int))]) (fun k v => v = w4 ∧ k ≤ 32 ∧ Di.lt32 (xs.drop k) (ys.drop k) = Di.lt32 xs ys) (fun k => 32 - k) 0 (by exact ⟨fun _ => by kernel_rfl, ⟨fun _ => by kernel_rfl, ⟨fun _ => by kernel_rfl, trivial⟩⟩⟩) ⟨rfl, by omega, by simp⟩ ?_
  rintro k v ⟨hv, hk, hL⟩
  rw [hv]
  clear hv v
  by_cases hlt : k < 32
  · skip
    obtain ⟨x, ex⟩ : ∃ x, xs.getD k 0 = x := ⟨_, rfl⟩
    obtain ⟨y, ey⟩ : ∃ y, ys.getD k 0 = y := ⟨_, rfl⟩
    have hcy : w4.cell? ⟨g5, 0 + k * 1, none⟩ = some (.int .u8 y) := by rw [Nat.zero_add, Nat.mul_one, cell_of_row _ _ _ _ _ _ hY, B8_get ys k (by omega), ey]
    have hix := fun v => Di.run_index_arr (P := Try.prog) 30 5 32 .u8 Try.underlying30 (by kernel_rfl) Try.underlying5 (B8 xs) (k : Int) _ (by omega) (by omega) (B8_get xs k (by omega)) v
    rw [ex] at hix
    refine cw_seq ?_
    refine cw_region ?_
    refine rw_p 9 (.bool true) (fun _ => by kernel_rfl) (fun _ => ol_conv (v := .bool (decide (((k : Nat) : Int) < (32 : Int)))) (by kernel_rfl) (congrArg Value.bool (decide_eq_true (by omega)))) ?_
    refine rw_nil ?_
    refine nw_then ?_
    refine cw_seq ?_
    refine cw_cond_t (fun _ => by kernel_rfl) ?_
    refine cw_skip ?_
    refine nw_then ?_
    refine cw_seq ?_
    refine cw_block ?_
    refine cw_seq ?_
    refine cw_region ?_
    refine rw_p 10 (.int .i64 ((k : Nat) : Int)) (fun _ => by kernel_rfl) (fun _ => by kernel_rfl) ?_
    refine rw_p 11 (.int .u8 x) (fun _ => by kernel_rfl) (fun _ => ol_indexA 30 _ _ _ _ rfl (by kernel_rfl) (by kernel_rfl) (hix _)) ?_
    refine rw_p 5 (.int .i64 ((k : Nat) : Int)) (fun _ => by kernel_rfl) (fun _ => by kernel_rfl) ?_
    refine rw_p 6 (.int .u8 x) (fun _ => by kernel_rfl) (fun _ => by kernel_rfl) ?_
    refine rw_nil ?_
    refine nw_then ?_
    refine cw_seq ?_
    refine cw_region ?_
    refine rw_p 12 (.int .u8 x) (fun _ => by kernel_rfl) (fun _ => by kernel_rfl) ?_
    refine rw_p 13 (.int .i64 ((k : Nat) : Int)) (fun _ => by kernel_rfl) (fun _ => by kernel_rfl) ?_
    refine rw_p 14 (.pointer (some ⟨g5, 0 + k * 1, none⟩)) (fun _ => by kernel_rfl) (fun _ => ol_indexP 30 _ _ g5 0 k 32 1 5 rfl (by kernel_rfl) (by kernel_rfl) (by omega) (by omega) Try.underlying30 (by kernel_rfl)) ?_
    refine rw_p 15 (.int .u8 y) (fun _ => by kernel_rfl) (fun _ => ol_cell 5 _ _ _ _ rfl (by kernel_rfl) hcy Try.underlying5 rfl) ?_
    refine rw_p 16 (.bool (!((x : Int) == (y : Int)))) (fun _ => by kernel_rfl) (fun _ => by kernel_rfl) ?_
    refine rw_nil ?_
    refine nw_then ?_
    cases hq7 : (!((x : Int) == (y : Int))) with
    | true =>
      have hxy : ¬ x = y := by simpa using hq7
      refine cw_cond_t (fun _ => by kernel_rfl) ?_
      refine cw_seq ?_
      refine cw_region ?_
      refine rw_p 17 (.int .u8 x) (fun _ => by kernel_rfl) (fun _ => by kernel_rfl) ?_
      refine rw_p 18 (.int .i64 ((k : Nat) : Int)) (fun _ => by kernel_rfl) (fun _ => by kernel_rfl) ?_
      refine rw_p 19 (.pointer (some ⟨g5, 0 + k * 1, none⟩)) (fun _ => by kernel_rfl) (fun _ => ol_indexP 30 _ _ g5 0 k 32 1 5 rfl (by kernel_rfl) (by kernel_rfl) (by omega) (by omega) Try.underlying30 (by kernel_rfl)) ?_
      refine rw_p 20 (.int .u8 y) (fun _ => by kernel_rfl) (fun _ => ol_cell 5 _ _ _ _ rfl (by kernel_rfl) hcy Try.underlying5 rfl) ?_
      refine rw_p 21 (.bool (decide ((x : Int) < (y : Int)))) (fun _ => by kernel_rfl) (fun _ => by kernel_rfl) ?_
      refine rw_p 4 (.bool (decide ((x : Int) < (y : Int)))) (fun _ => by kernel_rfl) (fun _ => by kernel_rfl) ?_
      refine rw_nil ?_
      refine nw_then ?_
      refine cw_ret ?_
      refine nw_ret_block ?_
      refine nw_ret_then ?_
      refine nw_ret_then ?_
      refine nw_ret_block ?_
      refine nw_ret_then ?_
      exact nw_ret_body (.bool (decide ((x : Int) < (y : Int)))) (fun _ => by kernel_rfl) ⟨by rw [← hL, Di.lt32_diff xs ys k x y (by omega) (by omega) ex ey hxy], hG⟩
    | false =>
      have hxy : x = y := by simpa using hq7
      refine cw_cond_f (fun _ => by kernel_rfl) ?_
      refine cw_skip ?_
      refine nw_block ?_
      refine nw_then ?_
      refine cw_region ?_
      refine rw_p 22 (.int .i64 (((k : Nat) : Int) + 1)) (fun _ => by kernel_rfl) (fun _ => ol_conv (v := .int .i64 (IntKind.i64.wrap (((k : Nat) : Int) + 1))) (by kernel_rfl) (congrArg (Value.int .i64) (wrap64 (by omega) (by omega)))) ?_
      refine rw_p 8 (.int .i64 (((k : Nat) : Int) + 1)) (fun _ => by kernel_rfl) (fun _ => by kernel_rfl) ?_
      refine rw_nil ?_
      exact nw_round (E := fun k => [(3, .pointer (some ⟨g5, 0, none⟩)), (7, .agg (B8 xs)), (8, .int .i64 ((k : Nat) : Int))]) (R := fun k v => v = w4 ∧ k ≤ 32 ∧ Di.lt32 (xs.drop k) (ys.drop k) = Di.lt32 xs ys) (μ := fun k => 32 - k) (x := k) (k + 1) (by exact ⟨fun _ => by kernel_rfl, ⟨fun _ => by kernel_rfl, ⟨fun _ => by kernel_rfl, trivial⟩⟩⟩) ⟨rfl, by omega, by rw [Di.lt32_same xs ys k x (by omega) (by omega) ex (by rw [ey, hxy])]; exact hL⟩ (by show 32 - (k + 1) < 32 - k; omega)
  obtain rfl : k = 32 := by omega
  refine cw_seq ?_
  refine cw_region ?_
  refine rw_p 9 (.bool false) (fun _ => by kernel_rfl) (fun _ => ol_conv (v := .bool (decide (((32 : Nat) : Int) < (32 : Int)))) (by kernel_rfl) (congrArg Value.bool (rfl))) ?_
  refine rw_nil ?_
  refine nw_then ?_
  refine cw_seq ?_
  refine cw_cond_f (fun _ => by kernel_rfl) ?_
  refine cw_exit ?_
  refine nw_exit_then ?_
  refine nw_exit_then ?_
  refine nw_exit_here ?_
  refine nw_then ?_
  refine cw_seq ?_
  refine cw_region ?_
  refine rw_p 4 (.bool false) (fun _ => by kernel_rfl) (fun _ => by kernel_rfl) ?_
  refine rw_nil ?_
  refine nw_then ?_
  refine cw_ret ?_
  exact nw_ret_body (.bool false) (fun _ => by kernel_rfl) ⟨by rw [← hL, Di.lt32_end xs ys 32 hx], hG⟩
set_option maxHeartbeats 400000 in
theorem order_grw (xs ys : List Int) (hx : xs.length = 32) (hy : ys.length = 32) (w : World) :
    Calls Try.prog 29 #[.agg (B8 xs), .agg (B8 ys)] w fun e w' => e = .returned (.int .i64 (ordT xs ys)) ∧ Grw w w' := by
  refine cw_enter Try.func29 rfl 13 rfl ?_
  show CW _ _ _ _ _ _ _ [(0, .agg (B8 xs)), (1, .agg (B8 ys))] _
  refine cw_seq ?_
  refine cw_region ?_
  refine rw_new 2 (B8 xs) 30 (fun _ => by kernel_rfl) (fun _ => by kernel_rfl) ?_
  intro w1 g2 hn3
  refine rw_new 3 (B8 ys) 30 (fun _ => by kernel_rfl) (fun _ => by kernel_rfl) ?_
  intro w4 g5 hn6
  refine rw_p 4 (.int .i64 0) (fun _ => by kernel_rfl) (fun _ => by kernel_rfl) ?_
  refine rw_nil ?_
  have hX := Below.row hn6.below hn3.row
  have hY := hn6.row
  have hG := (Grw.new hn3).trans (Grw.new hn6)
  refine nw_then ?_
  refine cw_seq ?_
  refine cw_block ?_
  refine cw_seq ?_
  refine cw_region ?_
  refine rw_p 6 (.agg (B8 xs)) (fun _ => by kernel_rfl) (fun _ => ol_row 30 _ _ _ _ _ _ rfl (by kernel_rfl) hX Try.underlying30 rfl (infoD xs hx)) ?_
  refine rw_p 7 (.agg (B8 ys)) (fun _ => by kernel_rfl) (fun _ => ol_row 30 _ _ _ _ _ _ rfl (by kernel_rfl) hY Try.underlying30 rfl (infoD ys hy)) ?_
  refine rw_call 8 40 #[.agg (B8 xs), .agg (B8 ys)] (fun _ => by kernel_rfl) (fun _ => by kernel_rfl) (R := fun v w' => v = .bool (Di.lt32 xs ys) ∧ Grw w4 w') ((less_grw xs ys hx hy w4).mono (fun e w' h => ⟨_, h.1, rfl, h.2⟩)) ?_
  rintro v u7 ⟨rfl, hg8⟩
  replace hX := Below.row hg8.below hX
  replace hY := Below.row hg8.below hY
  replace hG := hG.trans hg8
  refine rw_p 5 (.bool (Di.lt32 xs ys)) (fun _ => by kernel_rfl) (fun _ => by kernel_rfl) ?_
  refine rw_nil ?_
  refine nw_then ?_
  cases hq9 : (Di.lt32 xs ys) with
  | true =>
    refine cw_cond_t (fun _ => by kernel_rfl) ?_
    refine cw_seq ?_
    refine cw_region ?_
    refine rw_p 4 (.int .i64 (-1)) (fun _ => by kernel_rfl) (fun _ => by kernel_rfl) ?_
    refine rw_nil ?_
    refine nw_then ?_
    refine cw_ret ?_
    refine nw_ret_block ?_
    refine nw_ret_then ?_
    exact nw_ret_body (.int .i64 (-1)) (fun _ => by kernel_rfl) ⟨by simp [ordT, hq9], hG⟩
  | false =>
    refine cw_cond_f (fun _ => by kernel_rfl) ?_
    refine cw_seq ?_
    refine cw_region ?_
    refine rw_p 10 (.agg (B8 ys)) (fun _ => by kernel_rfl) (fun _ => ol_row 30 _ _ _ _ _ _ rfl (by kernel_rfl) hY Try.underlying30 rfl (infoD ys hy)) ?_
    refine rw_p 11 (.agg (B8 xs)) (fun _ => by kernel_rfl) (fun _ => ol_row 30 _ _ _ _ _ _ rfl (by kernel_rfl) hX Try.underlying30 rfl (infoD xs hx)) ?_
    refine rw_call 12 40 #[.agg (B8 ys), .agg (B8 xs)] (fun _ => by kernel_rfl) (fun _ => by kernel_rfl) (R := fun v w' => v = .bool (Di.lt32 ys xs) ∧ Grw u7 w') ((less_grw ys xs hy hx u7).mono (fun e w' h => ⟨_, h.1, rfl, h.2⟩)) ?_
    rintro v u10 ⟨rfl, hg11⟩
    replace hX := Below.row hg11.below hX
    replace hY := Below.row hg11.below hY
    replace hG := hG.trans hg11
    refine rw_p 9 (.bool (Di.lt32 ys xs)) (fun _ => by kernel_rfl) (fun _ => by kernel_rfl) ?_
    refine rw_nil ?_
    refine nw_then ?_
    cases hq12 : (Di.lt32 ys xs) with
    | true =>
      refine cw_cond_t (fun _ => by kernel_rfl) ?_
      refine cw_seq ?_
      refine cw_region ?_
      refine rw_p 4 (.int .i64 1) (fun _ => by kernel_rfl) (fun _ => by kernel_rfl) ?_
      refine rw_nil ?_
      refine nw_then ?_
      refine cw_ret ?_
      refine nw_ret_block ?_
      refine nw_ret_then ?_
      exact nw_ret_body (.int .i64 1) (fun _ => by kernel_rfl) ⟨by simp [ordT, hq9, hq12], hG⟩
    | false =>
      refine cw_cond_f (fun _ => by kernel_rfl) ?_
      refine cw_skip ?_
      refine nw_block ?_
      refine nw_then ?_
      refine cw_seq ?_
      refine cw_region ?_
      refine rw_p 4 (.int .i64 0) (fun _ => by kernel_rfl) (fun _ => by kernel_rfl) ?_
      refine rw_nil ?_
      refine nw_then ?_
      refine cw_ret ?_
      exact nw_ret_body (.int .i64 0) (fun _ => by kernel_rfl) ⟨by simp [ordT, hq9, hq12], hG⟩
end Go.Proofs.Ytjpcfdhkgfaeeaa
/- The sort of digests. -/
namespace Go.Proofs.Ytjpcfdhkgfaeeaa
open Go.RowKit Go.Proofs
open Di (lt32)
open Go.Sort (HoldsK flatK size_flatK get_flatK putRowK)
set_option linter.unusedVariables false
set_option maxRecDepth 100000
def encD (d : Dg) : List Value := d.1.map (Value.int .u8)
def ordD (x y : Dg) : Int := ordT x.1 y.1
theorem ordD_lt (x y : Dg) : Go.Proofs.ltOf ordD x y = lt32 x.1 y.1 := by
  unfold Go.Proofs.ltOf ordD ordT
  cases h1 : lt32 x.1 y.1 <;> cases h2 : lt32 y.1 x.1 <;> simp
theorem swoD : Sort.SWO (Go.Proofs.ltOf ordD) := ⟨fun x => by rw [ordD_lt]; exact lt32_irr _, fun x y z h1 h2 => by rw [ordD_lt] at *; exact lt32_trans _ _ _ h1 h2, fun x y z h1 h2 => by
  rw [ordD_lt] at *
  cases hq : lt32 x.1 z.1 with
  | false => rfl
  | true =>
    by_cases e : x.1 = y.1
    · rw [e] at hq; rw [hq] at h2; cases h2
    · have h3 := lt32_tot x.1 y.1 (by rw [x.2, y.2]) e h1
      have h4 := lt32_trans _ _ _ h3 hq
      rw [h4] at h2; cases h2⟩
theorem aggD (w : World) : (isAgg 30).run Try.prog w = .ok true w := by simp [isAgg, run_underlying Try.underlying30]
theorem sizD (w : World) : (Go.sizeOf 30).run Try.prog w = .ok 32 w := by
  obtain ⟨i, hi, _, hs, _⟩ := infoDz
  simp [Go.sizeOf, typeInfo, hi, hs]
theorem mapBlock_other (w : World) (b k : Nat) (f : Array Value → Array Value) (h : k ≠ b) : (Sort.mapBlock w b f).heap[k]? = w.heap[k]? := by
  unfold Sort.mapBlock
  simp [Array.getElem?_modify, Ne.symm h]
/-- The sort. -/
theorem sort_some {w : World} {gb cap : Nat} {xs : List Dg} (ho : OwnD w 0 (.slice (some ⟨gb, 0, none⟩) xs.length cap) (vals xs)) (hnd : (vals xs).Nodup) (hlen : xs.length ≤ 2199023255549) :
    Calls Try.prog 38 #[.slice (some ⟨gb, 0, none⟩) xs.length cap, .func (.func 29) #[] #[]] w fun e w' => e = .returned (.tuple #[]) ∧ ∃ M, Srt M ∧ M.Perm (vals xs) ∧ Ds w' (some ⟨gb, 0, none⟩) xs.length cap M ∧ Touch gb w w' := by
  haveI : Inhabited Dg := ⟨⟨z32, rfl⟩⟩
  obtain ⟨a, c, he, hds, _⟩ := ownD_ds ho (vals_len xs)
  obtain ⟨rfl, -, rfl⟩ : some ⟨gb, 0, none⟩ = a ∧ xs.length = (vals xs).length ∧ cap = c := by injection he with e1 e2 e3; exact ⟨e1, e2, e3⟩
  have hfz : ∃ cur, w.heap[gb]? = some (.cells cur 30 (0, 0)) := by
    have ho' : OwnD w 0 (.slice (some ⟨gb, 0, none⟩) (vals xs).length cap) (vals xs) := by rw [vals_length]; exact ho
    rcases ho'.2 with ⟨e, _⟩ | ⟨g, cap', cur, e, _, hg, _⟩
    · cases e
    · cases e; exact ⟨cur, hg⟩
  obtain ⟨cur, hcur⟩ := hfz
  have hsz : xs.toArray.size = xs.length := by simp
  have hH : HoldsK encD 32 w gb 0 xs.toArray := by
    intro j hj
    rw [size_flatK, hsz] at hj
    have hq : j / 32 < xs.length := Nat.div_lt_of_lt_mul (by omega)
    have hm : j % 32 < 32 := Nat.mod_lt _ (by omega)
    refine ⟨?_, frozen_of_row _ _ _ _ _ hcur⟩
    rw [get_flatK _ _ _ _ (by rw [hsz]; exact hj)]
    have hx : (xs.toArray)[j / 32]! = xs[j / 32] := by simp [hq]
    rw [hx]
    have hv : (vals xs)[j / 32]? = some xs[j / 32].1 := by simp [vals, hq]
    obtain ⟨g, off, e, hr⟩ := hds.rows (j / 32) _ hv
    cases e
    have hl := xs[j / 32].2
    have hc := hr (j % 32) (Value.int .u8 (xs[j / 32].1[j % 32]'(by omega))) (by simp [hl, hm])
    rw [show 0 + j / 32 * 32 + j % 32 = 0 + j from by omega] at hc
    rw [hc]
    simp [encD, hl, hm]
  have hcon := Go.Proofs.AnyQ.slices_SortFunc sortD 32 aggD sizD encD (fun x => by simp [encD, x.2]) (fun x v hv => by obtain ⟨b, _, rfl⟩ := List.mem_map.1 hv; rfl) ordD swoD 29 #[] gb 0 cap xs.toArray w (fun args w => by kernel_rfl)
    (fun mm os dk _ x y => (order_grw x.1 y.1 x.2 y.2 _).mono (fun e w' h => ⟨h.1, h.2⟩)) hH (lt_of_get hcur) (by rw [hsz]; omega)
  rw [hsz] at hcon
  refine (show Calls Try.prog 38 #[.slice (some ⟨gb, 0, none⟩) xs.length cap, .func (.func 29) #[] #[]] w _ from hcon).mono ?_
  rintro e w' ⟨rfl, d', nn, os, hp, hs, rfl⟩
  refine ⟨rfl, vals d'.toList, ?_, ?_, ?_, ?_⟩
  · have hps := hp.1
    rw [hsz] at hps
    unfold Srt
    rw [vals, List.pairwise_map, List.pairwise_iff_getElem]
    intro i j hi hj hij
    simp at hi hj
    have h1 := hs i j (Nat.zero_le _) hij (by omega)
    rw [ordD_lt] at h1
    simp only [hi, hj, getElem!_pos] at h1
    refine lt32_tot _ _ (by rw [d'.toList[j].2, d'.toList[i].2]) ?_ (by simpa using h1)
    intro q
    have hperm : (vals d'.toList).Perm (vals xs) := by
      have := hp.2.2
      rw [show d'.extract 0 xs.length = d' from by rw [← hps]; simp, show xs.toArray.extract 0 xs.length = xs.toArray from by simp] at this
      exact this.map _
    have hnd' : (vals d'.toList).Nodup := hperm.nodup_iff.2 hnd
    rw [vals, List.nodup_iff_pairwise_ne, List.pairwise_map, List.pairwise_iff_getElem] at hnd'
    exact hnd' i j (by simpa using hi) (by simpa using hj) hij q.symm
  · have := hp.2.2
    have hps := hp.1
    rw [hsz] at hps
    rw [show d'.extract 0 xs.length = d' from by rw [← hps]; simp, show xs.toArray.extract 0 xs.length = xs.toArray from by simp] at this
    exact this.map _
  · have hps := hp.1
    rw [hsz] at hps
    have hK := holdsK_sortWorldK_c encD 32 w gb 0 xs.toArray d' nn os hH (lt_of_get hcur) hp.1
    refine ⟨by rw [vals_length]; simp [hps], by have := hds.nc; rw [vals_length] at this; exact this, (fun e => by cases e), fun j d hj => ⟨gb, 0, rfl, fun k u hu => ?_⟩, vals_len _⟩
    have hj1 : j < d'.size := by have := (List.getElem?_eq_some_iff.1 hj).1; rw [vals_length] at this; simpa using this
    have hjd : d'[j].1 = d := by have := (List.getElem?_eq_some_iff.1 hj).2; simpa [vals] using this
    have hl := d'[j].2
    have hk : k < 32 := by have := (List.getElem?_eq_some_iff.1 hu).1; rw [List.length_map, ← hjd, hl] at this; exact this
    have h2 := (hK (j * 32 + k) (by rw [size_flatK]; omega)).1
    rw [get_flatK _ _ _ _ (by omega), show (j * 32 + k) / 32 = j from by omega, show (j * 32 + k) % 32 = k from by omega] at h2
    rw [show 0 + j * 32 + k = 0 + (j * 32 + k) from by omega, h2]
    simp only [hj1, getElem!_pos, id_eq, encD, hjd]
    have := List.getElem?_eq_some_iff.1 hu
    obtain ⟨h3, h4⟩ := this
    rw [getElem!_pos _ k h3, h4]
  · refine ⟨rfl, rfl, rfl, ?_, fun k hk hne => ?_⟩
    · simp [sortWorldK, putRowK, Sort.putRow, Sort.mapBlock, Sort.grow, Sort.ahead]
    · show ((putRowK encD 32 (Sort.ahead w nn) gb 0 d').heap ++ os)[k]? = w.heap[k]?
      have hsz2 : (putRowK encD 32 (Sort.ahead w nn) gb 0 d').heap.size = w.heap.size := by simp [putRowK, Sort.putRow, Sort.mapBlock, Sort.ahead]
      rw [Array.getElem?_append_left (by rw [hsz2]; exact hk)]
      exact mapBlock_other (Sort.ahead w nn) gb k _ hne
end Go.Proofs.Ytjpcfdhkgfaeeaa

/- What the document's number, least, one and Print answer. -/
import Derived.Test.YtbjjboicfghldaaDoorG31
namespace Go.Proofs.YtbjjboicfghldaaDoor
open Go.RowKit
open Wo
set_option linter.unusedVariables false
set_option maxRecDepth 100000
theorem mid_r {b : List Int} {p k : Nat} {x : Int} {r : List Int} (hd : b.drop p = x :: r) : (b.take (p + (1 + k))).drop (p + 1) = r.take k := by
  have h1 : b.drop (p + 1) = r := by rw [← List.drop_drop, hd]; rfl
  rw [List.drop_take, h1]
  congr 1
  omega
theorem np_szo {x : Int} {o : Nf} {r : List Int} (hof : ofP x = some o) (hw : o.wd ≠ pushW) (h0 : o.bh ≠ 0) (hb : Byt r) (hl : r.length = o.bh) : o.bh = szo (vl r) := by
  have hp : ¬ (32 ≤ x ∧ x < 40) := fun h => by
    rw [of_push h] at hof
    cases hof
    exact hw rfl
  rw [of_not hp] at hof
  cases hf : fdP x with
  | none => rw [hf] at hof; cases hof
  | some q =>
    rw [hf] at hof
    cases hof
    have key : ∀ q ∈ tbl, q.wd = pushW ∨ q.bh ≤ 1 := by decide +kernel
    rcases key q (List.mem_of_find?_eq_some hf) with h | h
    · exact absurd h hw
    · simp only at h0 hl ⊢
      have h1 : q.bh = 1 := by omega
      have h2 := vl_lt r hb
      rw [hl, h1] at h2
      have h3 := (nb_le_iff (vl r) 1).2 h2
      unfold szo
      omega
theorem jn_snoc (L : List (List Int)) (M : List Int) : jnP (L ++ [M]) = if L = [] then M else (jnP L ++ [32]) ++ M := by
  cases L with
  | nil => rw [if_pos rfl]; show M ++ [] = M; rw [List.append_nil]
  | cons y L =>
    rw [if_neg (by simp)]
    show y ++ ((L ++ [M]).map (32 :: ·)).flatten = _
    simp [jnP]
theorem jn_byt {L : List (List Int)} (hL : ∀ b ∈ L, Byt b) : Byt (jnP L) := by
  cases L with
  | nil => exact fun x hx => absurd hx List.not_mem_nil
  | cons y L =>
    refine byt_app (hL y List.mem_cons_self) fun x hx => ?_
    obtain ⟨z, hz, hx⟩ := List.mem_flatten.1 hx
    obtain ⟨q, hq, rfl⟩ := List.mem_map.1 hz
    rcases List.mem_cons.1 hx with rfl | hx
    · omega
    · exact hL q (List.mem_cons_of_mem _ hq) x hx
theorem vl_tk {b : List Int} (hb : Byt b) (h : b.length ≤ 8) (j : Nat) : vl (b.take j) < W64 := vl_lt8 (byt_take hb _) (by rw [List.length_take]; omega)
set_option maxHeartbeats 1000000 in
theorem rnumber {a : Option Addr} {n c : Nat} {b : List Int} (w : World) (h : Ag w a n c b) (hn : n ≤ 8) : Calls Tryd.prog 50 #[.slice a n c] w fun e w' => ∃ v, e = .returned v ∧ RVl w (.int .u64 ((vl b : Nat) : Int)) v w' := by
  have hlb := h.l
  have hvt := fun j => vl_tk h.b (by omega) j
  have hB : Bl w w := Bl.refl w
  refine cw_enter Tryd.func50 rfl 20 rfl ?_
  show CW _ _ _ _ _ _ _ [(0, .slice a n c)] _
  refine cw_seq ?_
  refine cw_region ?_
  refine rw_p 2 (.int .u64 0) (fun _ => by kernel_rfl) (fun _ => by kernel_rfl) ?_
  refine rw_nil ?_
  refine nw_then ?_
  refine cw_seq ?_
  refine cw_region ?_
  refine rw_p 3 (.int .u64 0) (fun _ => by kernel_rfl) (fun _ => by kernel_rfl) ?_
  refine rw_nil ?_
  refine nw_then ?_
  refine cw_seq ?_
  refine cw_seq ?_
  refine cw_region ?_
  refine rw_p 4 (.int .i64 0) (fun _ => by kernel_rfl) (fun _ => by kernel_rfl) ?_
  refine rw_nil ?_
  refine nw_then ?_
  refine cw_block ?_
  refine cw_loop (X := Nat) (fun q => [(0, .slice a n c), (3, .int .u64 ((vl (b.take q) : Nat) : Int)), (4, .int .i64 ((q : Nat) : Int))]) (fun q v => q ≤ n ∧ Bl w v) (fun q => n - q) 0 (by exact ⟨fun _ => by kernel_rfl, ⟨fun _ => by kernel_rfl, ⟨fun _ => by kernel_rfl, trivial⟩⟩⟩) ⟨by omega, hB⟩ ?_
  rintro i wl ⟨hi, hB⟩
  have h1 := h.go hB
  by_cases hlt : i < n
  · skip
    have hy0 := byt_get h.b i
    have hst := vl_take (s := b) (j := i) (by omega)
    have hv1 := hvt (i + 1)
    unfold W64 at hv1
    obtain ⟨gb1, of2, rfl, hc3⟩ := h1.at0 (k := i) (by omega)
    obtain ⟨y, hy⟩ := Int.eq_ofNat_of_zero_le hy0.1
    rw [hy] at hc3 hy0 hst
    rw [Int.toNat_natCast] at hst
    refine cw_seq ?_
    refine cw_seq ?_
    refine cw_region ?_
    refine rw_p 5 (.int .i64 ((i : Nat) : Int)) (fun _ => by kernel_rfl) (fun _ => by kernel_rfl) ?_
    refine rw_p 6 (.slice (some ⟨gb1, of2, none⟩) n c) (fun _ => by kernel_rfl) (fun _ => by kernel_rfl) ?_
    refine rw_p 7 (.int .i64 ((n : Nat) : Int)) (fun _ => by kernel_rfl) (fun _ => by kernel_rfl) ?_
    refine rw_p 8 (.bool true) (fun _ => by kernel_rfl) (fun _ => ol_conv (v := .bool (decide (((i : Nat) : Int) < ((n : Nat) : Int)))) (by kernel_rfl) (congrArg Value.bool (decide_eq_true (by omega)))) ?_
    refine rw_nil ?_
    refine nw_then ?_
    refine cw_cond_t (fun _ => by kernel_rfl) ?_
    refine cw_skip ?_
    refine nw_then ?_
    refine cw_seq ?_
    refine cw_block ?_
    refine cw_region ?_
    refine rw_p 11 (.int .u64 ((vl (b.take i) : Nat) : Int)) (fun _ => by kernel_rfl) (fun _ => by kernel_rfl) ?_
    refine rw_p 12 (.int .u64 ((vl (b.take i) * 256 : Nat) : Int)) (fun _ => by kernel_rfl) (fun _ => ol_conv (v := .int .u64 (IntKind.u64.wrap (((vl (b.take i) : Nat) : Int) * 256))) (by kernel_rfl) (congrArg (Value.int .u64) ((wU (by omega) (by omega)).trans (by omega)))) ?_
    refine rw_p 13 (.slice (some ⟨gb1, of2, none⟩) n c) (fun _ => by kernel_rfl) (fun _ => by kernel_rfl) ?_
    refine rw_p 14 (.int .i64 ((i : Nat) : Int)) (fun _ => by kernel_rfl) (fun _ => by kernel_rfl) ?_
    refine rw_p 15 (.pointer (some ⟨gb1, of2 + i * 1, none⟩)) (fun _ => by kernel_rfl) (fun _ => ol_index 32 _ _ gb1 of2 i n c 1 5 rfl (by kernel_rfl) (by kernel_rfl) (by omega) Tryd.underlying32 (by kernel_rfl)) ?_
    refine rw_p 16 (.int .u8 ((y : Nat) : Int)) (fun _ => by kernel_rfl) (fun _ => ol_cell 5 _ ⟨gb1, of2 + i * 1, none⟩ _ _ rfl (by kernel_rfl) hc3 Tryd.underlying5 rfl) ?_
    refine rw_p 17 (.int .u64 ((y : Nat) : Int)) (fun _ => by kernel_rfl) (fun _ => ol_cv 5 22 .u8 .u64 _ ((y : Nat) : Int) ((y : Nat) : Int) rfl Tryd.underlying5 Tryd.underlying22 (by kernel_rfl) (wrapI (by right; left; exact ⟨rfl, by omega, by omega⟩))) ?_
    refine rw_p 18 (.int .u64 ((vl (b.take (i + 1)) : Nat) : Int)) (fun _ => by kernel_rfl) (fun _ => ol_conv (v := .int .u64 (IntKind.u64.wrap (((vl (b.take i) * 256 : Nat) : Int) + ((y : Nat) : Int)))) (by kernel_rfl) (congrArg (Value.int .u64) ((wU (by omega) (by omega)).trans (by omega)))) ?_
    refine rw_p 3 (.int .u64 ((vl (b.take (i + 1)) : Nat) : Int)) (fun _ => by kernel_rfl) (fun _ => by kernel_rfl) ?_
    refine rw_nil ?_
    refine nw_block ?_
    refine nw_then ?_
    refine cw_region ?_
    refine rw_p 9 (.int .i64 ((i : Nat) : Int)) (fun _ => by kernel_rfl) (fun _ => by kernel_rfl) ?_
    refine rw_p 10 (.int .i64 ((i + 1 : Nat) : Int)) (fun _ => by kernel_rfl) (fun _ => ol_conv (v := .int .i64 (IntKind.i64.wrap (((i : Nat) : Int) + (1 : Int)))) (by kernel_rfl) (congrArg (Value.int .i64) (show IntKind.i64.wrap (((i : Nat) : Int) + (1 : Int)) = ((i + 1 : Nat) : Int) from (wrap64 (by omega) (by omega)).trans (by omega)))) ?_
    refine rw_p 4 (.int .i64 ((i + 1 : Nat) : Int)) (fun _ => by kernel_rfl) (fun _ => by kernel_rfl) ?_
    refine rw_nil ?_
    refine nw_round (X := Nat) (E := fun q => [(0, .slice (some ⟨gb1, of2, none⟩) n c), (3, .int .u64 ((vl (b.take q) : Nat) : Int)), (4, .int .i64 ((q : Nat) : Int))]) (R := fun q v => q ≤ n ∧ Bl w v) (μ := fun q => n - q) (x := i) (i + 1) (by exact ⟨fun _ => by kernel_rfl, ⟨fun _ => by kernel_rfl, ⟨fun _ => by kernel_rfl, trivial⟩⟩⟩) ⟨by omega, hB⟩ (by show n - (i + 1) < n - i; omega)
  · skip
    refine cw_seq ?_
    refine cw_seq ?_
    refine cw_region ?_
    refine rw_p 5 (.int .i64 ((i : Nat) : Int)) (fun _ => by kernel_rfl) (fun _ => by kernel_rfl) ?_
    refine rw_p 6 (.slice a n c) (fun _ => by kernel_rfl) (fun _ => by kernel_rfl) ?_
    refine rw_p 7 (.int .i64 ((n : Nat) : Int)) (fun _ => by kernel_rfl) (fun _ => by kernel_rfl) ?_
    refine rw_p 8 (.bool false) (fun _ => by kernel_rfl) (fun _ => ol_conv (v := .bool (decide (((i : Nat) : Int) < ((n : Nat) : Int)))) (by kernel_rfl) (congrArg Value.bool (decide_eq_false (by omega)))) ?_
    refine rw_nil ?_
    refine nw_then ?_
    refine cw_cond_f (fun _ => by kernel_rfl) ?_
    refine cw_exit ?_
    refine nw_exit_then ?_
    refine nw_exit_then ?_
    refine nw_exit_here ?_
    refine nw_then ?_
    refine cw_seq ?_
    refine cw_region ?_
    refine rw_p 19 (.int .u64 ((vl (b.take i) : Nat) : Int)) (fun _ => by kernel_rfl) (fun _ => by kernel_rfl) ?_
    refine rw_p 2 (.int .u64 ((vl (b.take i) : Nat) : Int)) (fun _ => by kernel_rfl) (fun _ => by kernel_rfl) ?_
    refine rw_nil ?_
    refine nw_then ?_
    refine cw_ret ?_
    refine nw_ret_body (.int .u64 ((vl (b.take i) : Nat) : Int)) (fun _ => by kernel_rfl) ?_
    refine ⟨_, rfl, ?_, hB⟩
    rw [List.take_of_length_le (by omega)]
theorem rleast {m : Nat} (hm : m < W64) (w : World) : Calls Tryd.prog 41 #[.int .u64 ((m : Nat) : Int)] w fun e w' => ∃ v, e = .returned v ∧ RVl w (.int .i64 ((szo m : Nat) : Int)) v w' := by
  have hB : Bl w w := Bl.refl w
  refine cw_enter Tryd.func41 rfl 7 rfl ?_
  show CW _ _ _ _ _ _ _ [(0, .int .u64 ((m : Nat) : Int))] _
  refine cw_seq ?_
  refine cw_region ?_
  refine rw_p 2 (.int .i64 0) (fun _ => by kernel_rfl) (fun _ => by kernel_rfl) ?_
  refine rw_nil ?_
  refine nw_then ?_
  refine cw_seq ?_
  refine cw_region ?_
  refine rw_p 3 (.int .u64 ((m : Nat) : Int)) (fun _ => by kernel_rfl) (fun _ => by kernel_rfl) ?_
  refine rw_call 4 54 #[.int .u64 ((m : Nat) : Int)] (fun _ => by kernel_rfl) (fun _ => by kernel_rfl) (R := RSl w (be m)) (rwbytes hm w) ?_
  rintro _ w4 ⟨⟨a1, n2, c3, rfl, ha5⟩, hb6⟩
  replace hB := hB.go hb6
  refine rw_p 5 (.int .i64 ((n2 : Nat) : Int)) (fun _ => by kernel_rfl) (fun _ => by kernel_rfl) ?_
  refine rw_p 6 (.int .i64 ((max n2 1 : Nat) : Int)) (fun _ => by kernel_rfl) (fun _ => ol_max _ _ n2 1 rfl (by kernel_rfl) (by kernel_rfl)) ?_
  refine rw_p 2 (.int .i64 ((max n2 1 : Nat) : Int)) (fun _ => by kernel_rfl) (fun _ => by kernel_rfl) ?_
  refine rw_nil ?_
  refine nw_then ?_
  refine cw_ret ?_
  refine nw_ret_body (.int .i64 ((max n2 1 : Nat) : Int)) (fun _ => by kernel_rfl) ?_
  refine ⟨_, rfl, ?_, hB⟩
  have hl := ha5.l
  rw [be_len] at hl
  unfold szo; rw [hl, Nat.max_comm]
set_option maxHeartbeats 2000000 in
theorem rone_no {a : Option Addr} {n c : Nat} {b : List Int} {p z : Nat} {r : List Int} (hd : b.drop p = ((z : Nat) : Int) :: r) (hx : b.getD p 0 = ((z : Nat) : Int)) (hof : ofP ((z : Nat) : Int) = none) (w : World) (h : Ag w a n c b) (hp : p < n) (hn : n ≤ 256) : Calls Tryd.prog 30 #[.slice a n c, .int .i64 ((p : Nat) : Int)] w fun e w' => ∃ v, e = .returned v ∧ RVl w (.string (strOfNums (wr ((b.drop p).take (szP (b.drop p)))))) v w' := by
  have hlb := h.l
  have hxb : 0 ≤ ((z : Nat) : Int) ∧ ((z : Nat) : Int) < 256 := by rw [← hx]; exact byt_get h.b p
  have hz : z < W64 := by unfold W64; omega
  have hrl : r.length + 1 = n - p := by have := congrArg List.length hd; rw [List.length_drop, List.length_cons] at this; omega
  have hbr : Byt r := fun y hy => h.b y (List.mem_of_mem_drop (by rw [hd]; exact List.mem_cons_of_mem _ hy))
  have hpz := pr_len (n := z) hz
  have hB : Bl w w := Bl.refl w
  refine cw_enter Tryd.func30 rfl 71 rfl ?_
  show CW _ _ _ _ _ _ _ [(0, .slice a n c), (1, .int .i64 ((p : Nat) : Int))] _
  refine cw_seq ?_
  refine cw_region ?_
  refine rw_p 4 (.string (strOfNums ([]))) (fun _ => by kernel_rfl) (fun _ => by kernel_rfl) ?_
  refine rw_nil ?_
  refine nw_then ?_
  refine cw_seq ?_
  obtain ⟨gb1, of2, rfl, hc3⟩ := h.at0 (k := p) (by omega)
  rw [hx] at hc3
  refine cw_region ?_
  refine rw_p 11 (.slice (some ⟨gb1, of2, none⟩) n c) (fun _ => by kernel_rfl) (fun _ => by kernel_rfl) ?_
  refine rw_p 12 (.int .i64 ((p : Nat) : Int)) (fun _ => by kernel_rfl) (fun _ => by kernel_rfl) ?_
  refine rw_call 13 23 #[.slice (some ⟨gb1, of2, none⟩) n c, .int .i64 ((p : Nat) : Int)] (fun _ => by kernel_rfl) (fun _ => by kernel_rfl) (R := RVl w (.tuple #[.int .i64 ((1 : Nat) : Int), .bool false])) (by have := rpiece w h hp; rw [hd, szP_no hof, isP_no hof] at this; exact this) ?_
  rintro _ w4 ⟨rfl, hb5⟩
  replace hB := hB.go hb5
  replace h := h.go hb5
  replace hc3 := cell_go hc3 hb5
  refine rw_p 10 (.tuple #[.int .i64 ((1 : Nat) : Int), .bool false]) (fun _ => by kernel_rfl) (fun _ => by kernel_rfl) ?_
  refine rw_p 14 (.int .i64 ((1 : Nat) : Int)) (fun _ => by kernel_rfl) (fun _ => by kernel_rfl) ?_
  refine rw_p 15 (.bool false) (fun _ => by kernel_rfl) (fun _ => by kernel_rfl) ?_
  refine rw_p 5 (.int .i64 ((1 : Nat) : Int)) (fun _ => by kernel_rfl) (fun _ => by kernel_rfl) ?_
  refine rw_p 6 (.bool false) (fun _ => by kernel_rfl) (fun _ => by kernel_rfl) ?_
  refine rw_nil ?_
  refine nw_then ?_
  refine cw_seq ?_
  refine cw_region ?_
  refine rw_p 17 (.slice (some ⟨gb1, of2, none⟩) n c) (fun _ => by kernel_rfl) (fun _ => by kernel_rfl) ?_
  refine rw_p 18 (.int .i64 ((p : Nat) : Int)) (fun _ => by kernel_rfl) (fun _ => by kernel_rfl) ?_
  refine rw_p 19 (.pointer (some ⟨gb1, of2 + p * 1, none⟩)) (fun _ => by kernel_rfl) (fun _ => ol_index 32 _ _ gb1 of2 p n c 1 5 rfl (by kernel_rfl) (by kernel_rfl) (by omega) Tryd.underlying32 (by kernel_rfl)) ?_
  refine rw_p 20 (.int .u8 ((z : Nat) : Int)) (fun _ => by kernel_rfl) (fun _ => ol_cell 5 _ ⟨gb1, of2 + p * 1, none⟩ _ _ rfl (by kernel_rfl) hc3 Tryd.underlying5 rfl) ?_
  refine rw_call 21 10 #[.int .u8 ((z : Nat) : Int)] (fun _ => by kernel_rfl) (fun _ => by kernel_rfl) (R := RVl w4 (.tuple #[.agg (NfV nf0), .bool false])) (rof_no hof hxb w4) ?_
  rintro _ w6 ⟨rfl, hb7⟩
  replace hB := hB.go hb7
  replace h := h.go hb7
  replace hc3 := cell_go hc3 hb7
  refine rw_p 16 (.tuple #[.agg (NfV nf0), .bool false]) (fun _ => by kernel_rfl) (fun _ => by kernel_rfl) ?_
  refine rw_p 22 (.agg (NfV nf0)) (fun _ => by kernel_rfl) (fun _ => by kernel_rfl) ?_
  refine rw_p 23 (.bool false) (fun _ => by kernel_rfl) (fun _ => by kernel_rfl) ?_
  refine rw_new 7 (#[.string (strOfNums []), .int .i64 0, .int .i64 0, .int .i64 0, .int .u64 0]) 27 (fun _ => by kernel_rfl) (fun _ => by kernel_rfl) ?_
  intro w8 g9 hn10
  have hzg9 : w.heap.size ≤ g9 := by have := hB.size; have := hn10.hg; omega
  have hr11 : Rw g9 w8 (#[.string (strOfNums []), .int .i64 0, .int .i64 0, .int .i64 0, .int .u64 0]) 27 := hn10.row
  refine rw_put g9 (NfV nf0) (fun _ => by kernel_rfl) (fun _ => ol_store 27 _ _ _ _ _ 27 rfl (by kernel_rfl) (by kernel_rfl) hr11 (by kernel_rfl) rfl (by kernel_rfl)) ?_
  intro w12 hp13
  have hbg9 : Below w6.heap.size w6 w12 := hp13.below hn10.below (Nat.le_of_eq hn10.hg.symm) (by have := hn10.size; have := hn10.hg; omega)
  replace hB := hB.go hbg9
  replace h := h.go hbg9
  replace hc3 := cell_go hc3 hbg9
  have hr14 : Rw g9 w12 (NfV nf0) 27 := hr11.put hp13
  refine rw_p 8 (.bool false) (fun _ => by kernel_rfl) (fun _ => by kernel_rfl) ?_
  refine rw_nil ?_
  refine nw_then ?_
  refine cw_seq ?_
  refine cw_seq ?_
  refine cw_region ?_
  refine rw_p 24 (.bool false) (fun _ => by kernel_rfl) (fun _ => by kernel_rfl) ?_
  refine rw_p 25 (.bool true) (fun _ => by kernel_rfl) (fun _ => by kernel_rfl) ?_
  refine rw_nil ?_
  refine nw_then ?_
  refine cw_cond_t (fun _ => by kernel_rfl) ?_
  refine cw_seq ?_
  refine cw_region ?_
  refine rw_p 26 (.slice (some ⟨gb1, of2, none⟩) n c) (fun _ => by kernel_rfl) (fun _ => by kernel_rfl) ?_
  refine rw_p 27 (.int .i64 ((p : Nat) : Int)) (fun _ => by kernel_rfl) (fun _ => by kernel_rfl) ?_
  refine rw_p 28 (.pointer (some ⟨gb1, of2 + p * 1, none⟩)) (fun _ => by kernel_rfl) (fun _ => ol_index 32 _ _ gb1 of2 p n c 1 5 rfl (by kernel_rfl) (by kernel_rfl) (by omega) Tryd.underlying32 (by kernel_rfl)) ?_
  refine rw_p 29 (.int .u8 ((z : Nat) : Int)) (fun _ => by kernel_rfl) (fun _ => ol_cell 5 _ ⟨gb1, of2 + p * 1, none⟩ _ _ rfl (by kernel_rfl) hc3 Tryd.underlying5 rfl) ?_
  refine rw_p 30 (.int .u64 ((z : Nat) : Int)) (fun _ => by kernel_rfl) (fun _ => ol_cv 5 22 .u8 .u64 _ ((z : Nat) : Int) ((z : Nat) : Int) rfl Tryd.underlying5 Tryd.underlying22 (by kernel_rfl) (wrapI (by right; left; exact ⟨rfl, by omega, by omega⟩))) ?_
  refine rw_call 31 49 #[.int .u64 ((z : Nat) : Int)] (fun _ => by kernel_rfl) (fun _ => by kernel_rfl) (R := RVl w12 (.string (strOfNums (pr z)))) (rwprint hz w12) ?_
  rintro _ w15 ⟨rfl, hb16⟩
  replace hB := hB.go hb16
  replace h := h.go hb16
  replace hc3 := cell_go hc3 hb16
  replace hr14 := hr14.go hb16
  have by17 : Byt (([98, 121, 116, 101, 32]) ++ (pr z)) := (byt_app (byt_lit (by decide)) (byt_pr z))
  refine rw_p 32 (.string (strOfNums (([98, 121, 116, 101, 32]) ++ (pr z)))) (fun _ => by kernel_rfl) (fun _ => ol_addS _ _ _ ([98, 121, 116, 101, 32]) (pr z) rfl (by kernel_rfl) (by kernel_rfl) (by have : pushW.length = 4 := rfl; simp; omega)) ?_
  refine rw_p 4 (.string (strOfNums (([98, 121, 116, 101, 32]) ++ (pr z)))) (fun _ => by kernel_rfl) (fun _ => by kernel_rfl) ?_
  refine rw_nil ?_
  refine nw_then ?_
  refine cw_ret ?_
  refine nw_ret_then ?_
  refine nw_ret_body (.string (strOfNums (([98, 121, 116, 101, 32]) ++ (pr z)))) (fun _ => by kernel_rfl) ?_
  refine ⟨_, rfl, ?_, hB⟩
  rw [hd, szP_no hof]; show _ = Value.string (strOfNums (wr [((z : Nat) : Int)])); rw [wr_no hof]; rfl
set_option maxHeartbeats 2000000 in
theorem rone_lt {a : Option Addr} {n c : Nat} {b : List Int} {p z : Nat} {r : List Int} (hd : b.drop p = ((z : Nat) : Int) :: r) (hx : b.getD p 0 = ((z : Nat) : Int)) {o : Nf} (hof : ofP ((z : Nat) : Int) = some o) (hlt : r.length < o.bh) (w : World) (h : Ag w a n c b) (hp : p < n) (hn : n ≤ 256) : Calls Tryd.prog 30 #[.slice a n c, .int .i64 ((p : Nat) : Int)] w fun e w' => ∃ v, e = .returned v ∧ RVl w (.string (strOfNums (wr ((b.drop p).take (szP (b.drop p)))))) v w' := by
  have hlb := h.l
  have hxb : 0 ≤ ((z : Nat) : Int) ∧ ((z : Nat) : Int) < 256 := by rw [← hx]; exact byt_get h.b p
  have hz : z < W64 := by unfold W64; omega
  have hrl : r.length + 1 = n - p := by have := congrArg List.length hd; rw [List.length_drop, List.length_cons] at this; omega
  have hbr : Byt r := fun y hy => h.b y (List.mem_of_mem_drop (by rw [hd]; exact List.mem_cons_of_mem _ hy))
  have hpz := pr_len (n := z) hz
  obtain ⟨hbh, -, -, -, hbw, hlw, -⟩ := nf_small hof
  have hB : Bl w w := Bl.refl w
  refine cw_enter Tryd.func30 rfl 71 rfl ?_
  show CW _ _ _ _ _ _ _ [(0, .slice a n c), (1, .int .i64 ((p : Nat) : Int))] _
  refine cw_seq ?_
  refine cw_region ?_
  refine rw_p 4 (.string (strOfNums ([]))) (fun _ => by kernel_rfl) (fun _ => by kernel_rfl) ?_
  refine rw_nil ?_
  refine nw_then ?_
  refine cw_seq ?_
  obtain ⟨gb1, of2, rfl, hc3⟩ := h.at0 (k := p) (by omega)
  rw [hx] at hc3
  refine cw_region ?_
  refine rw_p 11 (.slice (some ⟨gb1, of2, none⟩) n c) (fun _ => by kernel_rfl) (fun _ => by kernel_rfl) ?_
  refine rw_p 12 (.int .i64 ((p : Nat) : Int)) (fun _ => by kernel_rfl) (fun _ => by kernel_rfl) ?_
  refine rw_call 13 23 #[.slice (some ⟨gb1, of2, none⟩) n c, .int .i64 ((p : Nat) : Int)] (fun _ => by kernel_rfl) (fun _ => by kernel_rfl) (R := RVl w (.tuple #[.int .i64 ((1 : Nat) : Int), .bool false])) (by have := rpiece w h hp; rw [hd, szP_lt hof hlt, isP_some hof, decide_eq_true hlt] at this; exact this) ?_
  rintro _ w4 ⟨rfl, hb5⟩
  replace hB := hB.go hb5
  replace h := h.go hb5
  replace hc3 := cell_go hc3 hb5
  refine rw_p 10 (.tuple #[.int .i64 ((1 : Nat) : Int), .bool false]) (fun _ => by kernel_rfl) (fun _ => by kernel_rfl) ?_
  refine rw_p 14 (.int .i64 ((1 : Nat) : Int)) (fun _ => by kernel_rfl) (fun _ => by kernel_rfl) ?_
  refine rw_p 15 (.bool false) (fun _ => by kernel_rfl) (fun _ => by kernel_rfl) ?_
  refine rw_p 5 (.int .i64 ((1 : Nat) : Int)) (fun _ => by kernel_rfl) (fun _ => by kernel_rfl) ?_
  refine rw_p 6 (.bool false) (fun _ => by kernel_rfl) (fun _ => by kernel_rfl) ?_
  refine rw_nil ?_
  refine nw_then ?_
  refine cw_seq ?_
  refine cw_region ?_
  refine rw_p 17 (.slice (some ⟨gb1, of2, none⟩) n c) (fun _ => by kernel_rfl) (fun _ => by kernel_rfl) ?_
  refine rw_p 18 (.int .i64 ((p : Nat) : Int)) (fun _ => by kernel_rfl) (fun _ => by kernel_rfl) ?_
  refine rw_p 19 (.pointer (some ⟨gb1, of2 + p * 1, none⟩)) (fun _ => by kernel_rfl) (fun _ => ol_index 32 _ _ gb1 of2 p n c 1 5 rfl (by kernel_rfl) (by kernel_rfl) (by omega) Tryd.underlying32 (by kernel_rfl)) ?_
  refine rw_p 20 (.int .u8 ((z : Nat) : Int)) (fun _ => by kernel_rfl) (fun _ => ol_cell 5 _ ⟨gb1, of2 + p * 1, none⟩ _ _ rfl (by kernel_rfl) hc3 Tryd.underlying5 rfl) ?_
  refine rw_call 21 10 #[.int .u8 ((z : Nat) : Int)] (fun _ => by kernel_rfl) (fun _ => by kernel_rfl) (R := RVl w4 (.tuple #[.agg (NfV o), .bool true])) (rof_yes hof hxb w4) ?_
  rintro _ w6 ⟨rfl, hb7⟩
  replace hB := hB.go hb7
  replace h := h.go hb7
  replace hc3 := cell_go hc3 hb7
  refine rw_p 16 (.tuple #[.agg (NfV o), .bool true]) (fun _ => by kernel_rfl) (fun _ => by kernel_rfl) ?_
  refine rw_p 22 (.agg (NfV o)) (fun _ => by kernel_rfl) (fun _ => by kernel_rfl) ?_
  refine rw_p 23 (.bool true) (fun _ => by kernel_rfl) (fun _ => by kernel_rfl) ?_
  refine rw_new 7 (#[.string (strOfNums []), .int .i64 0, .int .i64 0, .int .i64 0, .int .u64 0]) 27 (fun _ => by kernel_rfl) (fun _ => by kernel_rfl) ?_
  intro w8 g9 hn10
  have hzg9 : w.heap.size ≤ g9 := by have := hB.size; have := hn10.hg; omega
  have hr11 : Rw g9 w8 (#[.string (strOfNums []), .int .i64 0, .int .i64 0, .int .i64 0, .int .u64 0]) 27 := hn10.row
  refine rw_put g9 (NfV o) (fun _ => by kernel_rfl) (fun _ => ol_store 27 _ _ _ _ _ 27 rfl (by kernel_rfl) (by kernel_rfl) hr11 (by kernel_rfl) rfl (by kernel_rfl)) ?_
  intro w12 hp13
  have hbg9 : Below w6.heap.size w6 w12 := hp13.below hn10.below (Nat.le_of_eq hn10.hg.symm) (by have := hn10.size; have := hn10.hg; omega)
  replace hB := hB.go hbg9
  replace h := h.go hbg9
  replace hc3 := cell_go hc3 hbg9
  have hr14 : Rw g9 w12 (NfV o) 27 := hr11.put hp13
  refine rw_p 8 (.bool true) (fun _ => by kernel_rfl) (fun _ => by kernel_rfl) ?_
  refine rw_nil ?_
  refine nw_then ?_
  refine cw_seq ?_
  refine cw_seq ?_
  refine cw_region ?_
  refine rw_p 24 (.bool false) (fun _ => by kernel_rfl) (fun _ => by kernel_rfl) ?_
  refine rw_p 25 (.bool true) (fun _ => by kernel_rfl) (fun _ => by kernel_rfl) ?_
  refine rw_nil ?_
  refine nw_then ?_
  refine cw_cond_t (fun _ => by kernel_rfl) ?_
  refine cw_seq ?_
  refine cw_region ?_
  refine rw_p 26 (.slice (some ⟨gb1, of2, none⟩) n c) (fun _ => by kernel_rfl) (fun _ => by kernel_rfl) ?_
  refine rw_p 27 (.int .i64 ((p : Nat) : Int)) (fun _ => by kernel_rfl) (fun _ => by kernel_rfl) ?_
  refine rw_p 28 (.pointer (some ⟨gb1, of2 + p * 1, none⟩)) (fun _ => by kernel_rfl) (fun _ => ol_index 32 _ _ gb1 of2 p n c 1 5 rfl (by kernel_rfl) (by kernel_rfl) (by omega) Tryd.underlying32 (by kernel_rfl)) ?_
  refine rw_p 29 (.int .u8 ((z : Nat) : Int)) (fun _ => by kernel_rfl) (fun _ => ol_cell 5 _ ⟨gb1, of2 + p * 1, none⟩ _ _ rfl (by kernel_rfl) hc3 Tryd.underlying5 rfl) ?_
  refine rw_p 30 (.int .u64 ((z : Nat) : Int)) (fun _ => by kernel_rfl) (fun _ => ol_cv 5 22 .u8 .u64 _ ((z : Nat) : Int) ((z : Nat) : Int) rfl Tryd.underlying5 Tryd.underlying22 (by kernel_rfl) (wrapI (by right; left; exact ⟨rfl, by omega, by omega⟩))) ?_
  refine rw_call 31 49 #[.int .u64 ((z : Nat) : Int)] (fun _ => by kernel_rfl) (fun _ => by kernel_rfl) (R := RVl w12 (.string (strOfNums (pr z)))) (rwprint hz w12) ?_
  rintro _ w15 ⟨rfl, hb16⟩
  replace hB := hB.go hb16
  replace h := h.go hb16
  replace hc3 := cell_go hc3 hb16
  replace hr14 := hr14.go hb16
  have by17 : Byt (([98, 121, 116, 101, 32]) ++ (pr z)) := (byt_app (byt_lit (by decide)) (byt_pr z))
  refine rw_p 32 (.string (strOfNums (([98, 121, 116, 101, 32]) ++ (pr z)))) (fun _ => by kernel_rfl) (fun _ => ol_addS _ _ _ ([98, 121, 116, 101, 32]) (pr z) rfl (by kernel_rfl) (by kernel_rfl) (by have : pushW.length = 4 := rfl; simp; omega)) ?_
  refine rw_p 4 (.string (strOfNums (([98, 121, 116, 101, 32]) ++ (pr z)))) (fun _ => by kernel_rfl) (fun _ => by kernel_rfl) ?_
  refine rw_nil ?_
  refine nw_then ?_
  refine cw_ret ?_
  refine nw_ret_then ?_
  refine nw_ret_body (.string (strOfNums (([98, 121, 116, 101, 32]) ++ (pr z)))) (fun _ => by kernel_rfl) ?_
  refine ⟨_, rfl, ?_, hB⟩
  rw [hd, szP_lt hof hlt]; show _ = Value.string (strOfNums (wr [((z : Nat) : Int)])); rw [wr_lt hof (by simp; omega)]; rfl
set_option maxHeartbeats 2000000 in
theorem rone_ge {a : Option Addr} {n c : Nat} {b : List Int} {p z : Nat} {r : List Int} (hd : b.drop p = ((z : Nat) : Int) :: r) (hx : b.getD p 0 = ((z : Nat) : Int)) {o : Nf} (hof : ofP ((z : Nat) : Int) = some o) (hge : ¬ r.length < o.bh) (w : World) (h : Ag w a n c b) (hp : p < n) (hn : n ≤ 256) : Calls Tryd.prog 30 #[.slice a n c, .int .i64 ((p : Nat) : Int)] w fun e w' => ∃ v, e = .returned v ∧ RVl w (.string (strOfNums (wr ((b.drop p).take (szP (b.drop p)))))) v w' := by
  have hlb := h.l
  have hxb : 0 ≤ ((z : Nat) : Int) ∧ ((z : Nat) : Int) < 256 := by rw [← hx]; exact byt_get h.b p
  have hz : z < W64 := by unfold W64; omega
  have hrl : r.length + 1 = n - p := by have := congrArg List.length hd; rw [List.length_drop, List.length_cons] at this; omega
  have hbr : Byt r := fun y hy => h.b y (List.mem_of_mem_drop (by rw [hd]; exact List.mem_cons_of_mem _ hy))
  have hpz := pr_len (n := z) hz
  obtain ⟨hbh, -, -, -, hbw, hlw, -⟩ := nf_small hof
  have htl : (r.take o.bh).length = o.bh := by rw [List.length_take]; omega
  have hv := vl_lt8 (byt_take hbr o.bh) (by omega)
  have hso := szo_bd hv
  have hob : o.bh < W64 := by unfold W64; omega
  have hp1 := pr_len (n := o.bh) hob
  have hp2 := pr_len (n := vl (r.take o.bh)) hv
  have hB : Bl w w := Bl.refl w
  refine cw_enter Tryd.func30 rfl 71 rfl ?_
  show CW _ _ _ _ _ _ _ [(0, .slice a n c), (1, .int .i64 ((p : Nat) : Int))] _
  refine cw_seq ?_
  refine cw_region ?_
  refine rw_p 4 (.string (strOfNums ([]))) (fun _ => by kernel_rfl) (fun _ => by kernel_rfl) ?_
  refine rw_nil ?_
  refine nw_then ?_
  refine cw_seq ?_
  obtain ⟨gb1, of2, rfl, hc3⟩ := h.at0 (k := p) (by omega)
  rw [hx] at hc3
  refine cw_region ?_
  refine rw_p 11 (.slice (some ⟨gb1, of2, none⟩) n c) (fun _ => by kernel_rfl) (fun _ => by kernel_rfl) ?_
  refine rw_p 12 (.int .i64 ((p : Nat) : Int)) (fun _ => by kernel_rfl) (fun _ => by kernel_rfl) ?_
  refine rw_call 13 23 #[.slice (some ⟨gb1, of2, none⟩) n c, .int .i64 ((p : Nat) : Int)] (fun _ => by kernel_rfl) (fun _ => by kernel_rfl) (R := RVl w (.tuple #[.int .i64 ((1 + o.bh : Nat) : Int), .bool true])) (by have := rpiece w h hp; rw [hd, szP_ge hof hge, isP_some hof, decide_eq_false hge] at this; exact this) ?_
  rintro _ w4 ⟨rfl, hb5⟩
  replace hB := hB.go hb5
  replace h := h.go hb5
  replace hc3 := cell_go hc3 hb5
  refine rw_p 10 (.tuple #[.int .i64 ((1 + o.bh : Nat) : Int), .bool true]) (fun _ => by kernel_rfl) (fun _ => by kernel_rfl) ?_
  refine rw_p 14 (.int .i64 ((1 + o.bh : Nat) : Int)) (fun _ => by kernel_rfl) (fun _ => by kernel_rfl) ?_
  refine rw_p 15 (.bool true) (fun _ => by kernel_rfl) (fun _ => by kernel_rfl) ?_
  refine rw_p 5 (.int .i64 ((1 + o.bh : Nat) : Int)) (fun _ => by kernel_rfl) (fun _ => by kernel_rfl) ?_
  refine rw_p 6 (.bool true) (fun _ => by kernel_rfl) (fun _ => by kernel_rfl) ?_
  refine rw_nil ?_
  refine nw_then ?_
  refine cw_seq ?_
  refine cw_region ?_
  refine rw_p 17 (.slice (some ⟨gb1, of2, none⟩) n c) (fun _ => by kernel_rfl) (fun _ => by kernel_rfl) ?_
  refine rw_p 18 (.int .i64 ((p : Nat) : Int)) (fun _ => by kernel_rfl) (fun _ => by kernel_rfl) ?_
  refine rw_p 19 (.pointer (some ⟨gb1, of2 + p * 1, none⟩)) (fun _ => by kernel_rfl) (fun _ => ol_index 32 _ _ gb1 of2 p n c 1 5 rfl (by kernel_rfl) (by kernel_rfl) (by omega) Tryd.underlying32 (by kernel_rfl)) ?_
  refine rw_p 20 (.int .u8 ((z : Nat) : Int)) (fun _ => by kernel_rfl) (fun _ => ol_cell 5 _ ⟨gb1, of2 + p * 1, none⟩ _ _ rfl (by kernel_rfl) hc3 Tryd.underlying5 rfl) ?_
  refine rw_call 21 10 #[.int .u8 ((z : Nat) : Int)] (fun _ => by kernel_rfl) (fun _ => by kernel_rfl) (R := RVl w4 (.tuple #[.agg (NfV o), .bool true])) (rof_yes hof hxb w4) ?_
  rintro _ w6 ⟨rfl, hb7⟩
  replace hB := hB.go hb7
  replace h := h.go hb7
  replace hc3 := cell_go hc3 hb7
  refine rw_p 16 (.tuple #[.agg (NfV o), .bool true]) (fun _ => by kernel_rfl) (fun _ => by kernel_rfl) ?_
  refine rw_p 22 (.agg (NfV o)) (fun _ => by kernel_rfl) (fun _ => by kernel_rfl) ?_
  refine rw_p 23 (.bool true) (fun _ => by kernel_rfl) (fun _ => by kernel_rfl) ?_
  refine rw_new 7 (#[.string (strOfNums []), .int .i64 0, .int .i64 0, .int .i64 0, .int .u64 0]) 27 (fun _ => by kernel_rfl) (fun _ => by kernel_rfl) ?_
  intro w8 g9 hn10
  have hzg9 : w.heap.size ≤ g9 := by have := hB.size; have := hn10.hg; omega
  have hr11 : Rw g9 w8 (#[.string (strOfNums []), .int .i64 0, .int .i64 0, .int .i64 0, .int .u64 0]) 27 := hn10.row
  refine rw_put g9 (NfV o) (fun _ => by kernel_rfl) (fun _ => ol_store 27 _ _ _ _ _ 27 rfl (by kernel_rfl) (by kernel_rfl) hr11 (by kernel_rfl) rfl (by kernel_rfl)) ?_
  intro w12 hp13
  have hbg9 : Below w6.heap.size w6 w12 := hp13.below hn10.below (Nat.le_of_eq hn10.hg.symm) (by have := hn10.size; have := hn10.hg; omega)
  replace hB := hB.go hbg9
  replace h := h.go hbg9
  replace hc3 := cell_go hc3 hbg9
  have hr14 : Rw g9 w12 (NfV o) 27 := hr11.put hp13
  refine rw_p 8 (.bool true) (fun _ => by kernel_rfl) (fun _ => by kernel_rfl) ?_
  refine rw_nil ?_
  refine nw_then ?_
  refine cw_seq ?_
  refine cw_seq ?_
  refine cw_region ?_
  refine rw_p 24 (.bool true) (fun _ => by kernel_rfl) (fun _ => by kernel_rfl) ?_
  refine rw_p 25 (.bool false) (fun _ => by kernel_rfl) (fun _ => by kernel_rfl) ?_
  refine rw_nil ?_
  refine nw_then ?_
  refine cw_cond_f (fun _ => by kernel_rfl) ?_
  refine cw_skip ?_
  refine nw_then ?_
  refine cw_seq ?_
  refine cw_seq ?_
  refine cw_region ?_
  refine rw_p 33 (.pointer (some ⟨g9, 1, none⟩)) (fun _ => by kernel_rfl) (fun _ => by kernel_rfl) ?_
  refine rw_p 34 (.int .i64 ((o.bh : Nat) : Int)) (fun _ => by kernel_rfl) (fun _ => ol_cell 3 _ ⟨g9, 1, none⟩ _ _ rfl (by kernel_rfl) (by rw [cell_of_row _ _ _ _ _ _ hr14]; rfl) Tryd.underlying3 rfl) ?_
  refine rw_p 35 (.bool (((o.bh : Nat) : Int) == (0 : Int))) (fun _ => by kernel_rfl) (fun _ => by kernel_rfl) ?_
  refine rw_nil ?_
  refine nw_then ?_
  cases hq15 : (((o.bh : Nat) : Int) == (0 : Int)) with
  | true =>
    have dhq15 := eq_of_beq hq15
    refine cw_cond_t (fun _ => by kernel_rfl) ?_
    refine cw_seq ?_
    refine cw_region ?_
    refine rw_p 36 (.pointer (some ⟨g9, 0, none⟩)) (fun _ => by kernel_rfl) (fun _ => by kernel_rfl) ?_
    refine rw_p 37 (.string (strOfNums o.wd)) (fun _ => by kernel_rfl) (fun _ => ol_cell 9 _ ⟨g9, 0, none⟩ _ _ rfl (by kernel_rfl) (by rw [cell_of_row _ _ _ _ _ _ hr14]; rfl) Tryd.underlying9 rfl) ?_
    refine rw_p 4 (.string (strOfNums o.wd)) (fun _ => by kernel_rfl) (fun _ => by kernel_rfl) ?_
    refine rw_nil ?_
    refine nw_then ?_
    refine cw_ret ?_
    refine nw_ret_then ?_
    refine nw_ret_body (.string (strOfNums o.wd)) (fun _ => by kernel_rfl) ?_
    refine ⟨_, rfl, ?_, hB⟩
    rw [hd, szP_ge hof hge, Nat.add_comm 1 o.bh]; show _ = Value.string (strOfNums (wr (((z : Nat) : Int) :: r.take o.bh)))
    rw [wr_0 hof (by omega)]
  | false =>
    have dhq15 := ne_of_beq_false hq15
    refine cw_cond_f (fun _ => by kernel_rfl) ?_
    refine cw_skip ?_
    refine nw_then ?_
    refine cw_seq ?_
    refine cw_region ?_
    refine rw_p 38 (.slice (some ⟨gb1, of2, none⟩) n c) (fun _ => by kernel_rfl) (fun _ => by kernel_rfl) ?_
    refine rw_p 39 (.int .i64 ((p : Nat) : Int)) (fun _ => by kernel_rfl) (fun _ => by kernel_rfl) ?_
    refine rw_p 40 (.int .i64 ((p + 1 : Nat) : Int)) (fun _ => by kernel_rfl) (fun _ => ol_conv (v := .int .i64 (IntKind.i64.wrap (((p : Nat) : Int) + (1 : Int)))) (by kernel_rfl) (congrArg (Value.int .i64) (show IntKind.i64.wrap (((p : Nat) : Int) + (1 : Int)) = ((p + 1 : Nat) : Int) from (wrap64 (by omega) (by omega)).trans (by omega)))) ?_
    refine rw_p 41 (.int .i64 ((p : Nat) : Int)) (fun _ => by kernel_rfl) (fun _ => by kernel_rfl) ?_
    refine rw_p 42 (.int .i64 ((1 + o.bh : Nat) : Int)) (fun _ => by kernel_rfl) (fun _ => by kernel_rfl) ?_
    refine rw_p 43 (.int .i64 ((p + (1 + o.bh) : Nat) : Int)) (fun _ => by kernel_rfl) (fun _ => ol_conv (v := .int .i64 (IntKind.i64.wrap (((p : Nat) : Int) + ((1 + o.bh : Nat) : Int)))) (by kernel_rfl) (congrArg (Value.int .i64) (show IntKind.i64.wrap (((p : Nat) : Int) + ((1 + o.bh : Nat) : Int)) = ((p + (1 + o.bh) : Nat) : Int) from (wrap64 (by omega) (by omega)).trans (by omega)))) ?_
    have ha16 := h.mid (i := p + 1) (j := p + (1 + o.bh)) (by omega) (by omega)
    refine rw_p 44 (.slice (cutA (some ⟨gb1, of2, none⟩) (p + 1) c) ((p + (1 + o.bh)) - (p + 1)) (c - (p + 1))) (fun _ => by kernel_rfl) (fun _ => ol_mid2 _ _ _ (some ⟨gb1, of2, none⟩) n c (p + 1) (p + (1 + o.bh)) rfl (by kernel_rfl) (by kernel_rfl) (by kernel_rfl) (by omega) (by have := h.cap; omega)) ?_
    refine rw_call 45 50 #[.slice (cutA (some ⟨gb1, of2, none⟩) (p + 1) c) ((p + (1 + o.bh)) - (p + 1)) (c - (p + 1))] (fun _ => by kernel_rfl) (fun _ => by kernel_rfl) (R := RVl w12 (.int .u64 ((vl (r.take o.bh) : Nat) : Int))) (by have := rnumber w12 ha16 (by omega); rw [mid_r hd] at this; exact this) ?_
    rintro _ w17 ⟨rfl, hb18⟩
    replace hB := hB.go hb18
    replace h := h.go hb18
    replace hc3 := cell_go hc3 hb18
    replace hr14 := hr14.go hb18
    replace ha16 := ha16.go hb18
    refine rw_p 9 (.int .u64 ((vl (r.take o.bh) : Nat) : Int)) (fun _ => by kernel_rfl) (fun _ => by kernel_rfl) ?_
    refine rw_nil ?_
    refine nw_then ?_
    refine cw_seq ?_
    refine cw_seq ?_
    refine cw_draw (fun v => Rw g9 v (NfV o) 27) (by kernel_rfl) (hr14) ?_
    replace hB := hB.go (Below.refl _ _).drew
    replace h := h.go (Below.refl _ _).drew
    replace hc3 := cell_go hc3 (Below.refl _ _).drew
    replace hr14 := hr14.go (Below.refl _ _).drew
    replace ha16 := ha16.go (Below.refl _ _).drew
    refine dw_take 0 46 (.pointer (some ⟨g9, 0, none⟩)) rfl (by kernel_rfl) (fun _ _ _ h => h) (fun _ => by kernel_rfl) (fun v hv _ => by kernel_rfl) hr14 ?_
    refine dw_take 1 47 (.string (strOfNums o.wd)) rfl (by kernel_rfl) (fun _ _ _ h => h) (fun _ => by kernel_rfl) (fun v hv _ => ol_cell 9 _ ⟨g9, 0, none⟩ _ _ rfl (by kernel_rfl) (by rw [cell_of_row _ _ _ _ _ _ hv]; rfl) Tryd.underlying9 rfl) hr14 ?_
    refine dw_take 2 48 (.bool (decide (o.wd = pushW))) rfl (by kernel_rfl) (fun _ _ _ h => h) (fun _ => by kernel_rfl) (fun v hv => (fun _ => ol_eqS 9 _ _ _ o.wd pushW rfl (by kernel_rfl) (by kernel_rfl) hbw (byt_lit (by decide)))) hr14 ?_
    refine dw_take 3 49 (.bool (decide (o.wd = pushW))) rfl (by kernel_rfl) (fun _ _ _ h => h) (fun _ => by kernel_rfl) (fun v hv _ => by kernel_rfl) hr14 ?_
    cases hq19 : (decide (o.wd = pushW)) with
    | true =>
      have dhq19 := of_decide_eq_true hq19
      refine dw_take 4 50 (.int .u64 ((vl (r.take o.bh) : Nat) : Int)) rfl (by kernel_rfl) (fun _ _ _ h => h) (fun _ => by kernel_rfl) (fun v hv _ => by kernel_rfl) hr14 ?_
      refine dw_take 6 52 (.pointer (some ⟨g9, 1, none⟩)) rfl (by kernel_rfl) (fun _ _ _ h => h) (fun _ => by kernel_rfl) (fun v hv _ => by kernel_rfl) hr14 ?_
      refine dw_take 7 53 (.int .i64 ((o.bh : Nat) : Int)) rfl (by kernel_rfl) (fun _ _ _ h => h) (fun _ => by kernel_rfl) (fun v hv _ => ol_cell 3 _ ⟨g9, 1, none⟩ _ _ rfl (by kernel_rfl) (by rw [cell_of_row _ _ _ _ _ _ hv]; rfl) Tryd.underlying3 rfl) hr14 ?_
      refine dw_ready [5] (by kernel_rfl) (by simp) ?_
      refine ar_call 5 51 41 #[.int .u64 ((vl (r.take o.bh) : Nat) : Int)] rfl (fun _ => by kernel_rfl) (fun _ => by kernel_rfl) (R := RVl w17.drew (.int .i64 ((szo (vl (r.take o.bh)) : Nat) : Int))) (rleast hv w17.drew) (fun u w' h9 => hr14.go h9.2) ?_ ar_nil
      rintro _ w20 ⟨rfl, hb21⟩
      replace hB := hB.go hb21
      replace h := h.go hb21
      replace hc3 := cell_go hc3 hb21
      replace hr14 := hr14.go hb21
      replace ha16 := ha16.go hb21
      refine dw_take 8 54 (.bool (!(((szo (vl (r.take o.bh)) : Nat) : Int) == ((o.bh : Nat) : Int)))) rfl (by kernel_rfl) (fun _ _ _ h => h) (fun _ => by kernel_rfl) (fun v hv _ => by kernel_rfl) hr14 ?_
      refine dw_take 9 55 (.bool (!(((szo (vl (r.take o.bh)) : Nat) : Int) == ((o.bh : Nat) : Int)))) rfl (by kernel_rfl) (fun _ _ _ h => h) (fun _ => by kernel_rfl) (fun v hv _ => by kernel_rfl) hr14 ?_
      refine dw_done (by kernel_rfl) ?_
      refine nw_then ?_
      cases hq22 : (!(((szo (vl (r.take o.bh)) : Nat) : Int) == ((o.bh : Nat) : Int))) with
      | true =>
        refine cw_cond_t (fun _ => by kernel_rfl) ?_
        refine cw_seq ?_
        refine cw_region ?_
        refine rw_p 56 (.pointer (some ⟨g9, 1, none⟩)) (fun _ => by kernel_rfl) (fun _ => by kernel_rfl) ?_
        refine rw_p 57 (.int .i64 ((o.bh : Nat) : Int)) (fun _ => by kernel_rfl) (fun _ => ol_cell 3 _ ⟨g9, 1, none⟩ _ _ rfl (by kernel_rfl) (by rw [cell_of_row _ _ _ _ _ _ hr14]; rfl) Tryd.underlying3 rfl) ?_
        refine rw_p 58 (.int .u64 ((o.bh : Nat) : Int)) (fun _ => by kernel_rfl) (fun _ => ol_cv 3 22 .i64 .u64 _ ((o.bh : Nat) : Int) ((o.bh : Nat) : Int) rfl Tryd.underlying3 Tryd.underlying22 (by kernel_rfl) (wrapI (by right; left; exact ⟨rfl, by omega, by omega⟩))) ?_
        refine rw_call 59 49 #[.int .u64 ((o.bh : Nat) : Int)] (fun _ => by kernel_rfl) (fun _ => by kernel_rfl) (R := RVl w20 (.string (strOfNums (pr o.bh)))) (rwprint hob w20) ?_
        rintro _ w23 ⟨rfl, hb24⟩
        replace hB := hB.go hb24
        replace h := h.go hb24
        replace hc3 := cell_go hc3 hb24
        replace hr14 := hr14.go hb24
        replace ha16 := ha16.go hb24
        have by25 : Byt (pushW ++ (pr o.bh)) := (byt_app (byt_lit (by decide)) (byt_pr _))
        refine rw_p 60 (.string (strOfNums (pushW ++ (pr o.bh)))) (fun _ => by kernel_rfl) (fun _ => ol_addS _ _ _ pushW (pr o.bh) rfl (by kernel_rfl) (by kernel_rfl) (by have : pushW.length = 4 := rfl; simp; omega)) ?_
        have by26 : Byt ((pushW ++ (pr o.bh)) ++ ([32])) := (byt_app by25 (byt_lit (by decide)))
        refine rw_p 61 (.string (strOfNums ((pushW ++ (pr o.bh)) ++ ([32])))) (fun _ => by kernel_rfl) (fun _ => ol_addS _ _ _ (pushW ++ (pr o.bh)) ([32]) rfl (by kernel_rfl) (by kernel_rfl) (by have : pushW.length = 4 := rfl; simp; omega)) ?_
        refine rw_p 62 (.int .u64 ((vl (r.take o.bh) : Nat) : Int)) (fun _ => by kernel_rfl) (fun _ => by kernel_rfl) ?_
        refine rw_call 63 49 #[.int .u64 ((vl (r.take o.bh) : Nat) : Int)] (fun _ => by kernel_rfl) (fun _ => by kernel_rfl) (R := RVl w23 (.string (strOfNums (pr (vl (r.take o.bh)))))) (rwprint hv w23) ?_
        rintro _ w27 ⟨rfl, hb28⟩
        replace hB := hB.go hb28
        replace h := h.go hb28
        replace hc3 := cell_go hc3 hb28
        replace hr14 := hr14.go hb28
        replace ha16 := ha16.go hb28
        have by29 : Byt (((pushW ++ (pr o.bh)) ++ ([32])) ++ (pr (vl (r.take o.bh)))) := (byt_app by26 (byt_pr _))
        refine rw_p 64 (.string (strOfNums (((pushW ++ (pr o.bh)) ++ ([32])) ++ (pr (vl (r.take o.bh)))))) (fun _ => by kernel_rfl) (fun _ => ol_addS _ _ _ ((pushW ++ (pr o.bh)) ++ ([32])) (pr (vl (r.take o.bh))) rfl (by kernel_rfl) (by kernel_rfl) (by have : pushW.length = 4 := rfl; simp; omega)) ?_
        refine rw_p 4 (.string (strOfNums (((pushW ++ (pr o.bh)) ++ ([32])) ++ (pr (vl (r.take o.bh)))))) (fun _ => by kernel_rfl) (fun _ => by kernel_rfl) ?_
        refine rw_nil ?_
        refine nw_then ?_
        refine cw_ret ?_
        refine nw_ret_then ?_
        refine nw_ret_body (.string (strOfNums (((pushW ++ (pr o.bh)) ++ ([32])) ++ (pr (vl (r.take o.bh)))))) (fun _ => by kernel_rfl) ?_
        refine ⟨_, rfl, ?_, hB⟩
        rw [hd, szP_ge hof hge, Nat.add_comm 1 o.bh]; show _ = Value.string (strOfNums (wr (((z : Nat) : Int) :: r.take o.bh)))
        have d9 : ((szo (vl (r.take o.bh)) : Nat) : Int) ≠ ((o.bh : Nat) : Int) := by simpa using hq22
        rw [wr_p hof (by omega) (by omega) (by omega)]
        simp
      | false =>
        refine cw_cond_f (fun _ => by kernel_rfl) ?_
        refine cw_skip ?_
        refine nw_then ?_
        refine cw_seq ?_
        refine cw_draw (fun v => Rw g9 v (NfV o) 27) (by kernel_rfl) (hr14) ?_
        replace hB := hB.go (Below.refl _ _).drew
        replace h := h.go (Below.refl _ _).drew
        replace hc3 := cell_go hc3 (Below.refl _ _).drew
        replace hr14 := hr14.go (Below.refl _ _).drew
        replace ha16 := ha16.go (Below.refl _ _).drew
        refine dw_take 0 65 (.pointer (some ⟨g9, 0, none⟩)) rfl (by kernel_rfl) (fun _ _ _ h => h) (fun _ => by kernel_rfl) (fun v hv _ => by kernel_rfl) hr14 ?_
        refine dw_take 1 66 (.string (strOfNums o.wd)) rfl (by kernel_rfl) (fun _ _ _ h => h) (fun _ => by kernel_rfl) (fun v hv _ => ol_cell 9 _ ⟨g9, 0, none⟩ _ _ rfl (by kernel_rfl) (by rw [cell_of_row _ _ _ _ _ _ hv]; rfl) Tryd.underlying9 rfl) hr14 ?_
        have by30 : Byt (o.wd ++ ([32])) := (byt_app hbw (byt_lit (by decide)))
        refine dw_take 2 67 (.string (strOfNums (o.wd ++ ([32])))) rfl (by kernel_rfl) (fun _ _ _ h => h) (fun _ => by kernel_rfl) (fun v hv => (fun _ => ol_addS _ _ _ o.wd ([32]) rfl (by kernel_rfl) (by kernel_rfl) (by have : pushW.length = 4 := rfl; simp; omega))) hr14 ?_
        refine dw_take 3 68 (.int .u64 ((vl (r.take o.bh) : Nat) : Int)) rfl (by kernel_rfl) (fun _ _ _ h => h) (fun _ => by kernel_rfl) (fun v hv _ => by kernel_rfl) hr14 ?_
        refine dw_ready [4] (by kernel_rfl) (by simp) ?_
        refine ar_call 4 69 49 #[.int .u64 ((vl (r.take o.bh) : Nat) : Int)] rfl (fun _ => by kernel_rfl) (fun _ => by kernel_rfl) (R := RVl w20.drew (.string (strOfNums (pr (vl (r.take o.bh)))))) (rwprint hv w20.drew) (fun u w' h9 => hr14.go h9.2) ?_ ar_nil
        rintro _ w31 ⟨rfl, hb32⟩
        replace hB := hB.go hb32
        replace h := h.go hb32
        replace hc3 := cell_go hc3 hb32
        replace hr14 := hr14.go hb32
        replace ha16 := ha16.go hb32
        have by33 : Byt ((o.wd ++ ([32])) ++ (pr (vl (r.take o.bh)))) := (byt_app by30 (byt_pr _))
        refine dw_take 5 70 (.string (strOfNums ((o.wd ++ ([32])) ++ (pr (vl (r.take o.bh)))))) rfl (by kernel_rfl) (fun _ _ _ h => h) (fun _ => by kernel_rfl) (fun v hv => (fun _ => ol_addS _ _ _ (o.wd ++ ([32])) (pr (vl (r.take o.bh))) rfl (by kernel_rfl) (by kernel_rfl) (by have : pushW.length = 4 := rfl; simp; omega))) hr14 ?_
        refine dw_take 6 4 (.string (strOfNums ((o.wd ++ ([32])) ++ (pr (vl (r.take o.bh)))))) rfl (by kernel_rfl) (fun _ _ _ h => h) (fun _ => by kernel_rfl) (fun v hv _ => by kernel_rfl) hr14 ?_
        refine dw_done (by kernel_rfl) ?_
        refine nw_then ?_
        refine cw_ret ?_
        refine nw_ret_body (.string (strOfNums ((o.wd ++ ([32])) ++ (pr (vl (r.take o.bh)))))) (fun _ => by kernel_rfl) ?_
        refine ⟨_, rfl, ?_, hB⟩
        rw [hd, szP_ge hof hge, Nat.add_comm 1 o.bh]; show _ = Value.string (strOfNums (wr (((z : Nat) : Int) :: r.take o.bh)))
        have d9 : ((szo (vl (r.take o.bh)) : Nat) : Int) = ((o.bh : Nat) : Int) := by simpa using hq22
        rw [wr_w hof (by omega) (by omega) (by omega)]
        simp
    | false =>
      have dhq19 := of_decide_eq_false hq19
      refine dw_off 4 50 rfl (by kernel_rfl) (fun _ _ _ h => h) (fun _ => by kernel_rfl) hr14 ?_
      refine dw_off 5 51 rfl (by kernel_rfl) (fun _ _ _ h => h) (fun _ => by kernel_rfl) hr14 ?_
      refine dw_off 6 52 rfl (by kernel_rfl) (fun _ _ _ h => h) (fun _ => by kernel_rfl) hr14 ?_
      refine dw_off 7 53 rfl (by kernel_rfl) (fun _ _ _ h => h) (fun _ => by kernel_rfl) hr14 ?_
      refine dw_off 8 54 rfl (by kernel_rfl) (fun _ _ _ h => h) (fun _ => by kernel_rfl) hr14 ?_
      refine dw_take 9 55 (.bool false) rfl (by kernel_rfl) (fun _ _ _ h => h) (fun _ => by kernel_rfl) (fun v hv _ => by kernel_rfl) hr14 ?_
      refine dw_done (by kernel_rfl) ?_
      refine nw_then ?_
      refine cw_cond_f (fun _ => by kernel_rfl) ?_
      refine cw_skip ?_
      refine nw_then ?_
      refine cw_seq ?_
      refine cw_draw (fun v => Rw g9 v (NfV o) 27) (by kernel_rfl) (hr14) ?_
      replace hB := hB.go (Below.refl _ _).drew
      replace h := h.go (Below.refl _ _).drew
      replace hc3 := cell_go hc3 (Below.refl _ _).drew
      replace hr14 := hr14.go (Below.refl _ _).drew
      replace ha16 := ha16.go (Below.refl _ _).drew
      refine dw_take 0 65 (.pointer (some ⟨g9, 0, none⟩)) rfl (by kernel_rfl) (fun _ _ _ h => h) (fun _ => by kernel_rfl) (fun v hv _ => by kernel_rfl) hr14 ?_
      refine dw_take 1 66 (.string (strOfNums o.wd)) rfl (by kernel_rfl) (fun _ _ _ h => h) (fun _ => by kernel_rfl) (fun v hv _ => ol_cell 9 _ ⟨g9, 0, none⟩ _ _ rfl (by kernel_rfl) (by rw [cell_of_row _ _ _ _ _ _ hv]; rfl) Tryd.underlying9 rfl) hr14 ?_
      have by34 : Byt (o.wd ++ ([32])) := (byt_app hbw (byt_lit (by decide)))
      refine dw_take 2 67 (.string (strOfNums (o.wd ++ ([32])))) rfl (by kernel_rfl) (fun _ _ _ h => h) (fun _ => by kernel_rfl) (fun v hv => (fun _ => ol_addS _ _ _ o.wd ([32]) rfl (by kernel_rfl) (by kernel_rfl) (by have : pushW.length = 4 := rfl; simp; omega))) hr14 ?_
      refine dw_take 3 68 (.int .u64 ((vl (r.take o.bh) : Nat) : Int)) rfl (by kernel_rfl) (fun _ _ _ h => h) (fun _ => by kernel_rfl) (fun v hv _ => by kernel_rfl) hr14 ?_
      refine dw_ready [4] (by kernel_rfl) (by simp) ?_
      refine ar_call 4 69 49 #[.int .u64 ((vl (r.take o.bh) : Nat) : Int)] rfl (fun _ => by kernel_rfl) (fun _ => by kernel_rfl) (R := RVl w17.drew.drew (.string (strOfNums (pr (vl (r.take o.bh)))))) (rwprint hv w17.drew.drew) (fun u w' h9 => hr14.go h9.2) ?_ ar_nil
      rintro _ w35 ⟨rfl, hb36⟩
      replace hB := hB.go hb36
      replace h := h.go hb36
      replace hc3 := cell_go hc3 hb36
      replace hr14 := hr14.go hb36
      replace ha16 := ha16.go hb36
      have by37 : Byt ((o.wd ++ ([32])) ++ (pr (vl (r.take o.bh)))) := (byt_app by34 (byt_pr _))
      refine dw_take 5 70 (.string (strOfNums ((o.wd ++ ([32])) ++ (pr (vl (r.take o.bh)))))) rfl (by kernel_rfl) (fun _ _ _ h => h) (fun _ => by kernel_rfl) (fun v hv => (fun _ => ol_addS _ _ _ (o.wd ++ ([32])) (pr (vl (r.take o.bh))) rfl (by kernel_rfl) (by kernel_rfl) (by have : pushW.length = 4 := rfl; simp; omega))) hr14 ?_
      refine dw_take 6 4 (.string (strOfNums ((o.wd ++ ([32])) ++ (pr (vl (r.take o.bh)))))) rfl (by kernel_rfl) (fun _ _ _ h => h) (fun _ => by kernel_rfl) (fun v hv _ => by kernel_rfl) hr14 ?_
      refine dw_done (by kernel_rfl) ?_
      refine nw_then ?_
      refine cw_ret ?_
      refine nw_ret_body (.string (strOfNums ((o.wd ++ ([32])) ++ (pr (vl (r.take o.bh)))))) (fun _ => by kernel_rfl) ?_
      refine ⟨_, rfl, ?_, hB⟩
      rw [hd, szP_ge hof hge, Nat.add_comm 1 o.bh]; show _ = Value.string (strOfNums (wr (((z : Nat) : Int) :: r.take o.bh)))
      rw [wr_w hof (by omega) (by omega) (np_szo hof dhq19 (by omega) (byt_take hbr _) htl)]
      simp
theorem rone {a : Option Addr} {n c : Nat} {b : List Int} {p : Nat} (w : World) (h : Ag w a n c b) (hp : p < n) (hn : n ≤ 256) : Calls Tryd.prog 30 #[.slice a n c, .int .i64 ((p : Nat) : Int)] w fun e w' => ∃ v, e = .returned v ∧ RVl w (.string (strOfNums (wr ((b.drop p).take (szP (b.drop p)))))) v w' := by
  obtain ⟨r, hd⟩ := drop_cons (b := b) (p := p) (by rw [h.l]; exact hp)
  obtain ⟨z, hz⟩ := Int.eq_ofNat_of_zero_le (byt_get h.b p).1
  rw [hz] at hd
  cases hof : ofP ((z : Nat) : Int) with
  | none => exact rone_no hd hz hof w h hp hn
  | some o =>
    by_cases hlt : r.length < o.bh
    · exact rone_lt hd hz hof hlt w h hp hn
    · exact rone_ge hd hz hof hlt w h hp hn
set_option maxHeartbeats 1000000 in
theorem rprt_long {a : Option Addr} {n c : Nat} {b : List Int} (w : World) (h : Ag w a n c b) (hn : 256 < n) : Calls Tryd.prog 19 #[.slice a n c] w fun e w' => ∃ v, e = .returned v ∧ RVl w (.tuple #[.string (strOfNums (prP b).1), .int .i64 (prP b).2]) v w' := by
  have hl := h.l
  have hB : Bl w w := Bl.refl w
  refine cw_enter Tryd.func19 rfl 34 rfl ?_
  show CW _ _ _ _ _ _ _ [(0, .slice a n c)] _
  refine cw_seq ?_
  refine cw_region ?_
  refine rw_p 2 (.string (strOfNums ([]))) (fun _ => by kernel_rfl) (fun _ => by kernel_rfl) ?_
  refine rw_p 3 (.int .i64 0) (fun _ => by kernel_rfl) (fun _ => by kernel_rfl) ?_
  refine rw_nil ?_
  refine nw_then ?_
  refine cw_seq ?_
  refine cw_seq ?_
  refine cw_region ?_
  refine rw_p 8 (.slice a n c) (fun _ => by kernel_rfl) (fun _ => by kernel_rfl) ?_
  refine rw_p 9 (.int .i64 ((n : Nat) : Int)) (fun _ => by kernel_rfl) (fun _ => by kernel_rfl) ?_
  refine rw_p 10 (.bool true) (fun _ => by kernel_rfl) (fun _ => ol_conv (v := .bool (decide (((n : Nat) : Int) > (256 : Int)))) (by kernel_rfl) (congrArg Value.bool (decide_eq_true (by omega)))) ?_
  refine rw_nil ?_
  refine nw_then ?_
  refine cw_cond_t (fun _ => by kernel_rfl) ?_
  refine cw_seq ?_
  refine cw_region ?_
  refine rw_p 2 (.string (strOfNums ([]))) (fun _ => by kernel_rfl) (fun _ => by kernel_rfl) ?_
  refine rw_p 3 (.int .i64 142) (fun _ => by kernel_rfl) (fun _ => by kernel_rfl) ?_
  refine rw_nil ?_
  refine nw_then ?_
  refine cw_ret ?_
  refine nw_ret_then ?_
  rw [pr_long (by omega)]
  refine nw_ret_body (.tuple #[.string (strOfNums ([])), .int .i64 142]) (fun _ => by kernel_rfl) ?_
  exact ⟨_, rfl, rfl, hB⟩
set_option maxHeartbeats 1000000 in
theorem rprt_ok {a : Option Addr} {n c : Nat} {b : List Int} (w : World) (h : Ag w a n c b) (hn : ¬ 256 < n) : Calls Tryd.prog 19 #[.slice a n c] w fun e w' => ∃ v, e = .returned v ∧ RVl w (.tuple #[.string (strOfNums (prP b).1), .int .i64 (prP b).2]) v w' := by
  have hl := h.l
  have hB : Bl w w := Bl.refl w
  refine cw_enter Tryd.func19 rfl 34 rfl ?_
  show CW _ _ _ _ _ _ _ [(0, .slice a n c)] _
  refine cw_seq ?_
  refine cw_region ?_
  refine rw_p 2 (.string (strOfNums ([]))) (fun _ => by kernel_rfl) (fun _ => by kernel_rfl) ?_
  refine rw_p 3 (.int .i64 0) (fun _ => by kernel_rfl) (fun _ => by kernel_rfl) ?_
  refine rw_nil ?_
  refine nw_then ?_
  refine cw_seq ?_
  refine cw_seq ?_
  refine cw_region ?_
  refine rw_p 8 (.slice a n c) (fun _ => by kernel_rfl) (fun _ => by kernel_rfl) ?_
  refine rw_p 9 (.int .i64 ((n : Nat) : Int)) (fun _ => by kernel_rfl) (fun _ => by kernel_rfl) ?_
  refine rw_p 10 (.bool false) (fun _ => by kernel_rfl) (fun _ => ol_conv (v := .bool (decide (((n : Nat) : Int) > (256 : Int)))) (by kernel_rfl) (congrArg Value.bool (decide_eq_false (by omega)))) ?_
  refine rw_nil ?_
  refine nw_then ?_
  refine cw_cond_f (fun _ => by kernel_rfl) ?_
  refine cw_skip ?_
  refine nw_then ?_
  refine cw_seq ?_
  refine cw_region ?_
  refine rw_p 4 (.string (strOfNums ([]))) (fun _ => by kernel_rfl) (fun _ => by kernel_rfl) ?_
  refine rw_nil ?_
  refine nw_then ?_
  refine cw_seq ?_
  refine cw_region ?_
  refine rw_p 5 (.int .i64 0) (fun _ => by kernel_rfl) (fun _ => by kernel_rfl) ?_
  refine rw_nil ?_
  refine nw_then ?_
  refine cw_seq ?_
  refine cw_block ?_
  refine cw_loop (X := Nat × List (List Int)) (fun q => [(0, .slice a n c), (4, .string (strOfNums (jnP q.2))), (5, .int .i64 ((q.1 : Nat) : Int))]) (fun q v => q.1 ≤ n ∧ q.2 ++ (pcF (b.drop q.1)).map wr = (pcF b).map wr ∧ (q.1 = 0 ↔ q.2 = []) ∧ q.2.length ≤ q.1 ∧ (∀ x ∈ q.2, x.length ≤ 60) ∧ (∀ x ∈ q.2, Byt x) ∧ Bl w v) (fun q => n - q.1) (0, []) (by exact ⟨fun _ => by kernel_rfl, ⟨fun _ => by kernel_rfl, ⟨fun _ => by kernel_rfl, trivial⟩⟩⟩) ⟨Nat.zero_le _, rfl, by simp, Nat.le_refl _, (fun x hx => absurd hx List.not_mem_nil), (fun x hx => absurd hx List.not_mem_nil), hB⟩ ?_
  rintro ⟨p, L⟩ wl ⟨hp, hm, h0, hln, hL, hLb, hB⟩
  simp only at hp hm h0 hln hL hLb
  show CW _ _ _ _ _ _ _ [(0, .slice a n c), (4, .string (strOfNums (jnP L))), (5, .int .i64 ((p : Nat) : Int))] _
  have h1 := h.go hB
  by_cases hlt : p < n
  · skip
    obtain ⟨hs1, hs2⟩ := sz_drop (b := b) (p := p) (by omega)
    have hs9 := szP_9 (b.drop p)
    have hwg := wr_good (b := (b.drop p).take (szP (b.drop p))) (byt_take (byt_drop h.b _) _) (by rw [List.length_take]; omega)
    have hpc := pc_step (b := b.drop p) (by rw [List.length_drop]; omega)
    rw [List.drop_drop] at hpc
    obtain ⟨M, hM⟩ : ∃ M, wr ((b.drop p).take (szP (b.drop p))) = M := ⟨_, rfl⟩
    rw [hM] at hwg
    obtain ⟨hMb, hMl⟩ := hwg
    have hjl := jn_len L hL
    have hjb := jn_byt hLb
    refine cw_seq ?_
    refine cw_seq ?_
    refine cw_region ?_
    refine rw_p 11 (.int .i64 ((p : Nat) : Int)) (fun _ => by kernel_rfl) (fun _ => by kernel_rfl) ?_
    refine rw_p 12 (.slice a n c) (fun _ => by kernel_rfl) (fun _ => by kernel_rfl) ?_
    refine rw_p 13 (.int .i64 ((n : Nat) : Int)) (fun _ => by kernel_rfl) (fun _ => by kernel_rfl) ?_
    refine rw_p 14 (.bool true) (fun _ => by kernel_rfl) (fun _ => ol_conv (v := .bool (decide (((p : Nat) : Int) < ((n : Nat) : Int)))) (by kernel_rfl) (congrArg Value.bool (decide_eq_true (by omega)))) ?_
    refine rw_nil ?_
    refine nw_then ?_
    refine cw_cond_t (fun _ => by kernel_rfl) ?_
    refine cw_skip ?_
    refine nw_then ?_
    refine cw_block ?_
    refine cw_seq ?_
    refine cw_seq ?_
    refine cw_region ?_
    refine rw_p 15 (.int .i64 ((p : Nat) : Int)) (fun _ => by kernel_rfl) (fun _ => by kernel_rfl) ?_
    refine rw_p 16 (.bool (decide (((p : Nat) : Int) > (0 : Int)))) (fun _ => by kernel_rfl) (fun _ => by kernel_rfl) ?_
    refine rw_nil ?_
    refine nw_then ?_
    cases hq1 : (decide (((p : Nat) : Int) > (0 : Int))) with
    | true =>
      have dhq1 := of_decide_eq_true hq1
      refine cw_cond_t (fun _ => by kernel_rfl) ?_
      refine cw_region ?_
      refine rw_p 17 (.string (strOfNums (jnP L))) (fun _ => by kernel_rfl) (fun _ => by kernel_rfl) ?_
      have by2 : Byt ((jnP L) ++ ([32])) := (byt_app hjb (byt_lit (by decide)))
      refine rw_p 18 (.string (strOfNums ((jnP L) ++ ([32])))) (fun _ => by kernel_rfl) (fun _ => ol_addS _ _ _ (jnP L) ([32]) rfl (by kernel_rfl) (by kernel_rfl) (by first | omega | (simp; omega))) ?_
      refine rw_p 4 (.string (strOfNums ((jnP L) ++ ([32])))) (fun _ => by kernel_rfl) (fun _ => by kernel_rfl) ?_
      refine rw_nil ?_
      refine nw_then ?_
      refine cw_seq ?_
      refine cw_region ?_
      refine rw_p 19 (.string (strOfNums ((jnP L) ++ ([32])))) (fun _ => by kernel_rfl) (fun _ => by kernel_rfl) ?_
      refine rw_p 20 (.slice a n c) (fun _ => by kernel_rfl) (fun _ => by kernel_rfl) ?_
      refine rw_p 21 (.int .i64 ((p : Nat) : Int)) (fun _ => by kernel_rfl) (fun _ => by kernel_rfl) ?_
      refine rw_call 22 30 #[.slice a n c, .int .i64 ((p : Nat) : Int)] (fun _ => by kernel_rfl) (fun _ => by kernel_rfl) (R := RVl wl (.string (strOfNums M))) (by have := rone wl h1 hlt (by omega); rw [hM] at this; exact this) ?_
      rintro _ w3 ⟨rfl, hb4⟩
      replace hB := hB.go hb4
      replace h1 := h1.go hb4
      refine rw_p 23 (.string (strOfNums (jnP (L ++ [M])))) (fun _ => by kernel_rfl) (fun _ => ol_conv (ol_addS _ _ _ ((jnP L) ++ ([32])) M rfl (by kernel_rfl) (by kernel_rfl) (by first | omega | (simp; omega))) (congrArg (fun l => Value.string (strOfNums l)) (by rw [jn_snoc, if_neg (fun e => by have := h0.2 e; omega)]))) ?_
      refine rw_p 4 (.string (strOfNums (jnP (L ++ [M])))) (fun _ => by kernel_rfl) (fun _ => by kernel_rfl) ?_
      refine rw_nil ?_
      refine nw_then ?_
      refine cw_seq ?_
      refine cw_region ?_
      refine rw_p 25 (.slice a n c) (fun _ => by kernel_rfl) (fun _ => by kernel_rfl) ?_
      refine rw_p 26 (.int .i64 ((p : Nat) : Int)) (fun _ => by kernel_rfl) (fun _ => by kernel_rfl) ?_
      refine rw_call 27 23 #[.slice a n c, .int .i64 ((p : Nat) : Int)] (fun _ => by kernel_rfl) (fun _ => by kernel_rfl) (R := RVl w3 (.tuple #[.int .i64 ((szP (b.drop p) : Nat) : Int), .bool (isP (b.drop p))])) (rpiece w3 h1 hlt) ?_
      rintro _ w5 ⟨rfl, hb6⟩
      replace hB := hB.go hb6
      replace h1 := h1.go hb6
      refine rw_p 24 (.tuple #[.int .i64 ((szP (b.drop p) : Nat) : Int), .bool (isP (b.drop p))]) (fun _ => by kernel_rfl) (fun _ => by kernel_rfl) ?_
      refine rw_p 28 (.int .i64 ((szP (b.drop p) : Nat) : Int)) (fun _ => by kernel_rfl) (fun _ => by kernel_rfl) ?_
      refine rw_p 29 (.bool (isP (b.drop p))) (fun _ => by kernel_rfl) (fun _ => by kernel_rfl) ?_
      refine rw_p 6 (.int .i64 ((szP (b.drop p) : Nat) : Int)) (fun _ => by kernel_rfl) (fun _ => by kernel_rfl) ?_
      refine rw_p 7 (.bool (isP (b.drop p))) (fun _ => by kernel_rfl) (fun _ => by kernel_rfl) ?_
      refine rw_nil ?_
      refine nw_then ?_
      refine cw_region ?_
      refine rw_p 30 (.int .i64 ((p : Nat) : Int)) (fun _ => by kernel_rfl) (fun _ => by kernel_rfl) ?_
      refine rw_p 31 (.int .i64 ((szP (b.drop p) : Nat) : Int)) (fun _ => by kernel_rfl) (fun _ => by kernel_rfl) ?_
      refine rw_p 32 (.int .i64 ((p + (szP (b.drop p)) : Nat) : Int)) (fun _ => by kernel_rfl) (fun _ => ol_conv (v := .int .i64 (IntKind.i64.wrap (((p : Nat) : Int) + ((szP (b.drop p) : Nat) : Int)))) (by kernel_rfl) (congrArg (Value.int .i64) (show IntKind.i64.wrap (((p : Nat) : Int) + ((szP (b.drop p) : Nat) : Int)) = ((p + (szP (b.drop p)) : Nat) : Int) from (wrap64 (by omega) (by omega)).trans (by omega)))) ?_
      refine rw_p 5 (.int .i64 ((p + (szP (b.drop p)) : Nat) : Int)) (fun _ => by kernel_rfl) (fun _ => by kernel_rfl) ?_
      refine rw_nil ?_
      refine nw_block ?_
      refine nw_round (X := Nat × List (List Int)) (E := fun q => [(0, .slice a n c), (4, .string (strOfNums (jnP q.2))), (5, .int .i64 ((q.1 : Nat) : Int))]) (R := fun q v => q.1 ≤ n ∧ q.2 ++ (pcF (b.drop q.1)).map wr = (pcF b).map wr ∧ (q.1 = 0 ↔ q.2 = []) ∧ q.2.length ≤ q.1 ∧ (∀ x ∈ q.2, x.length ≤ 60) ∧ (∀ x ∈ q.2, Byt x) ∧ Bl w v) (μ := fun q => n - q.1) (x := (p, L)) (p + szP (b.drop p), L ++ [M]) (by exact ⟨fun _ => by kernel_rfl, ⟨fun _ => by kernel_rfl, ⟨fun _ => by kernel_rfl, trivial⟩⟩⟩) ⟨by show p + _ ≤ n; omega, ?_, ⟨fun e => by simp only at e; omega, fun e => by simp at e⟩, by simp; omega, ?_, ?_, hB⟩ (by show n - (p + szP (b.drop p)) < n - p; omega)
      · show (L ++ [M]) ++ (pcF (b.drop (p + szP (b.drop p)))).map wr = _
        rw [← hm, hpc, List.map_cons, hM, List.append_assoc]; rfl
      · intro x hx
        rcases List.mem_append.1 hx with hx | hx
        · exact hL x hx
        · rw [List.mem_singleton.1 hx]; exact hMl
      · intro x hx
        rcases List.mem_append.1 hx with hx | hx
        · exact hLb x hx
        · rw [List.mem_singleton.1 hx]; exact hMb
    | false =>
      have dhq1 := of_decide_eq_false hq1
      refine cw_cond_f (fun _ => by kernel_rfl) ?_
      refine cw_skip ?_
      refine nw_then ?_
      refine cw_seq ?_
      refine cw_region ?_
      refine rw_p 19 (.string (strOfNums (jnP L))) (fun _ => by kernel_rfl) (fun _ => by kernel_rfl) ?_
      refine rw_p 20 (.slice a n c) (fun _ => by kernel_rfl) (fun _ => by kernel_rfl) ?_
      refine rw_p 21 (.int .i64 ((p : Nat) : Int)) (fun _ => by kernel_rfl) (fun _ => by kernel_rfl) ?_
      refine rw_call 22 30 #[.slice a n c, .int .i64 ((p : Nat) : Int)] (fun _ => by kernel_rfl) (fun _ => by kernel_rfl) (R := RVl wl (.string (strOfNums M))) (by have := rone wl h1 hlt (by omega); rw [hM] at this; exact this) ?_
      rintro _ w7 ⟨rfl, hb8⟩
      replace hB := hB.go hb8
      replace h1 := h1.go hb8
      refine rw_p 23 (.string (strOfNums (jnP (L ++ [M])))) (fun _ => by kernel_rfl) (fun _ => ol_conv (ol_addS _ _ _ (jnP L) M rfl (by kernel_rfl) (by kernel_rfl) (by first | omega | (simp; omega))) (congrArg (fun l => Value.string (strOfNums l)) (by obtain rfl : L = [] := h0.1 (by omega); rw [jn_snoc, if_pos rfl]; rfl))) ?_
      refine rw_p 4 (.string (strOfNums (jnP (L ++ [M])))) (fun _ => by kernel_rfl) (fun _ => by kernel_rfl) ?_
      refine rw_nil ?_
      refine nw_then ?_
      refine cw_seq ?_
      refine cw_region ?_
      refine rw_p 25 (.slice a n c) (fun _ => by kernel_rfl) (fun _ => by kernel_rfl) ?_
      refine rw_p 26 (.int .i64 ((p : Nat) : Int)) (fun _ => by kernel_rfl) (fun _ => by kernel_rfl) ?_
      refine rw_call 27 23 #[.slice a n c, .int .i64 ((p : Nat) : Int)] (fun _ => by kernel_rfl) (fun _ => by kernel_rfl) (R := RVl w7 (.tuple #[.int .i64 ((szP (b.drop p) : Nat) : Int), .bool (isP (b.drop p))])) (rpiece w7 h1 hlt) ?_
      rintro _ w9 ⟨rfl, hb10⟩
      replace hB := hB.go hb10
      replace h1 := h1.go hb10
      refine rw_p 24 (.tuple #[.int .i64 ((szP (b.drop p) : Nat) : Int), .bool (isP (b.drop p))]) (fun _ => by kernel_rfl) (fun _ => by kernel_rfl) ?_
      refine rw_p 28 (.int .i64 ((szP (b.drop p) : Nat) : Int)) (fun _ => by kernel_rfl) (fun _ => by kernel_rfl) ?_
      refine rw_p 29 (.bool (isP (b.drop p))) (fun _ => by kernel_rfl) (fun _ => by kernel_rfl) ?_
      refine rw_p 6 (.int .i64 ((szP (b.drop p) : Nat) : Int)) (fun _ => by kernel_rfl) (fun _ => by kernel_rfl) ?_
      refine rw_p 7 (.bool (isP (b.drop p))) (fun _ => by kernel_rfl) (fun _ => by kernel_rfl) ?_
      refine rw_nil ?_
      refine nw_then ?_
      refine cw_region ?_
      refine rw_p 30 (.int .i64 ((p : Nat) : Int)) (fun _ => by kernel_rfl) (fun _ => by kernel_rfl) ?_
      refine rw_p 31 (.int .i64 ((szP (b.drop p) : Nat) : Int)) (fun _ => by kernel_rfl) (fun _ => by kernel_rfl) ?_
      refine rw_p 32 (.int .i64 ((p + (szP (b.drop p)) : Nat) : Int)) (fun _ => by kernel_rfl) (fun _ => ol_conv (v := .int .i64 (IntKind.i64.wrap (((p : Nat) : Int) + ((szP (b.drop p) : Nat) : Int)))) (by kernel_rfl) (congrArg (Value.int .i64) (show IntKind.i64.wrap (((p : Nat) : Int) + ((szP (b.drop p) : Nat) : Int)) = ((p + (szP (b.drop p)) : Nat) : Int) from (wrap64 (by omega) (by omega)).trans (by omega)))) ?_
      refine rw_p 5 (.int .i64 ((p + (szP (b.drop p)) : Nat) : Int)) (fun _ => by kernel_rfl) (fun _ => by kernel_rfl) ?_
      refine rw_nil ?_
      refine nw_block ?_
      refine nw_round (X := Nat × List (List Int)) (E := fun q => [(0, .slice a n c), (4, .string (strOfNums (jnP q.2))), (5, .int .i64 ((q.1 : Nat) : Int))]) (R := fun q v => q.1 ≤ n ∧ q.2 ++ (pcF (b.drop q.1)).map wr = (pcF b).map wr ∧ (q.1 = 0 ↔ q.2 = []) ∧ q.2.length ≤ q.1 ∧ (∀ x ∈ q.2, x.length ≤ 60) ∧ (∀ x ∈ q.2, Byt x) ∧ Bl w v) (μ := fun q => n - q.1) (x := (p, L)) (p + szP (b.drop p), L ++ [M]) (by exact ⟨fun _ => by kernel_rfl, ⟨fun _ => by kernel_rfl, ⟨fun _ => by kernel_rfl, trivial⟩⟩⟩) ⟨by show p + _ ≤ n; omega, ?_, ⟨fun e => by simp only at e; omega, fun e => by simp at e⟩, by simp; omega, ?_, ?_, hB⟩ (by show n - (p + szP (b.drop p)) < n - p; omega)
      · show (L ++ [M]) ++ (pcF (b.drop (p + szP (b.drop p)))).map wr = _
        rw [← hm, hpc, List.map_cons, hM, List.append_assoc]; rfl
      · intro x hx
        rcases List.mem_append.1 hx with hx | hx
        · exact hL x hx
        · rw [List.mem_singleton.1 hx]; exact hMl
      · intro x hx
        rcases List.mem_append.1 hx with hx | hx
        · exact hLb x hx
        · rw [List.mem_singleton.1 hx]; exact hMb
  · skip
    refine cw_seq ?_
    refine cw_seq ?_
    refine cw_region ?_
    refine rw_p 11 (.int .i64 ((p : Nat) : Int)) (fun _ => by kernel_rfl) (fun _ => by kernel_rfl) ?_
    refine rw_p 12 (.slice a n c) (fun _ => by kernel_rfl) (fun _ => by kernel_rfl) ?_
    refine rw_p 13 (.int .i64 ((n : Nat) : Int)) (fun _ => by kernel_rfl) (fun _ => by kernel_rfl) ?_
    refine rw_p 14 (.bool false) (fun _ => by kernel_rfl) (fun _ => ol_conv (v := .bool (decide (((p : Nat) : Int) < ((n : Nat) : Int)))) (by kernel_rfl) (congrArg Value.bool (decide_eq_false (by omega)))) ?_
    refine rw_nil ?_
    refine nw_then ?_
    refine cw_cond_f (fun _ => by kernel_rfl) ?_
    refine cw_exit ?_
    refine nw_exit_then ?_
    refine nw_exit_then ?_
    refine nw_exit_here ?_
    refine nw_then ?_
    refine cw_seq ?_
    refine cw_region ?_
    refine rw_p 33 (.string (strOfNums (jnP L))) (fun _ => by kernel_rfl) (fun _ => by kernel_rfl) ?_
    refine rw_p 2 (.string (strOfNums (jnP L))) (fun _ => by kernel_rfl) (fun _ => by kernel_rfl) ?_
    refine rw_p 3 (.int .i64 0) (fun _ => by kernel_rfl) (fun _ => by kernel_rfl) ?_
    refine rw_nil ?_
    refine nw_then ?_
    refine cw_ret ?_
    rw [show b.drop p = [] from List.drop_of_length_le (by omega), pcF_nil, List.map_nil, List.append_nil] at hm
    rw [pr_of (by omega), ← hm]
    refine nw_ret_body (.tuple #[.string (strOfNums (jnP L)), .int .i64 0]) (fun _ => by kernel_rfl) ?_
    exact ⟨_, rfl, rfl, hB⟩
theorem rprt {a : Option Addr} {n c : Nat} {b : List Int} (w : World) (h : Ag w a n c b) : Calls Tryd.prog 19 #[.slice a n c] w fun e w' => ∃ v, e = .returned v ∧ RVl w (.tuple #[.string (strOfNums (prP b).1), .int .i64 (prP b).2]) v w' := by
  by_cases hn : 256 < n
  · exact rprt_long w h hn
  · exact rprt_ok w h hn
end Go.Proofs.YtbjjboicfghldaaDoor

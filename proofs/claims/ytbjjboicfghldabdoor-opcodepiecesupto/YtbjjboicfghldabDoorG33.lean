/- cutOff; the statement OpcodePieces, as a call. -/
import Derived.Test.YtbjjboicfghldabDoorG32
namespace Go.Proofs.YtbjjboicfghldabDoor
open Go.RowKit
open Wo
set_option linter.unusedVariables false
set_option maxRecDepth 100000
theorem ct_drop {b : List Int} {p : Nat} {x : Int} {r : List Int} (hd : b.drop p = x :: r) : (x :: r).drop (szP (x :: r)) = b.drop (p + szP (b.drop p)) := by rw [← List.drop_drop, hd]
theorem mk_len (b : List Int) : (mkF 0 b).length ≤ b.length := by
  have key : ∀ (n p : Nat), b.length - p ≤ n → (mkF p (b.drop p)).length ≤ b.length - p := by
    intro n
    induction n with
    | zero => intro p h; rw [List.drop_of_length_le (by omega), mkF_nil]; exact Nat.zero_le _
    | succ n ih =>
      intro p h
      by_cases hp : p < b.length
      · obtain ⟨h1, h2⟩ := sz_drop hp
        have := ih (p + szP (b.drop p)) (by omega)
        rw [mk_step hp, List.length_append]
        split <;> simp <;> omega
      · rw [List.drop_of_length_le (by omega), mkF_nil]; exact Nat.zero_le _
  have := key b.length 0 (by omega)
  rw [List.drop_zero] at this
  omega
set_option maxHeartbeats 1000000 in
theorem wcut {a : Option Addr} {n c : Nat} {b : List Int} (w : World) (h : Ag w a n c b) (hn : n ≤ 1048576) : Calls Tryd.prog 10 #[.slice a n c] w fun e w' => ∃ v, e = .returned v ∧ RVl w (.bool (ctF b)) v w' := by
  have hlb := h.l
  have hB : Bl w w := Bl.refl w
  refine cw_enter Tryd.func10 rfl 39 rfl ?_
  show CW _ _ _ _ _ _ _ [(0, .slice a n c)] _
  refine cw_seq ?_
  refine cw_region ?_
  refine rw_p 2 (.bool false) (fun _ => by kernel_rfl) (fun _ => by kernel_rfl) ?_
  refine rw_nil ?_
  refine nw_then ?_
  refine cw_seq ?_
  refine cw_region ?_
  refine rw_p 3 (.int .i64 0) (fun _ => by kernel_rfl) (fun _ => by kernel_rfl) ?_
  refine rw_nil ?_
  refine nw_then ?_
  refine cw_seq ?_
  refine cw_block ?_
  refine cw_loop (X := Nat) (fun q => [(0, .slice a n c), (3, .int .i64 ((q : Nat) : Int))]) (fun q v => q ≤ n ∧ ctF (b.drop q) = ctF b ∧ Bl w v) (fun q => n - q) 0 (by exact ⟨fun _ => by kernel_rfl, ⟨fun _ => by kernel_rfl, trivial⟩⟩) ⟨by omega, by rw [List.drop_zero], hB⟩ ?_
  rintro p wl ⟨hp, hct, hB⟩
  have h1 := h.go hB
  by_cases hlt : p < n
  · skip
    obtain ⟨hs1, hs2⟩ := sz_drop (b := b) (p := p) (by omega)
    obtain ⟨r, hd⟩ := drop_cons (b := b) (p := p) (by omega)
    have hxb := byt_get h.b p
    obtain ⟨x, hx⟩ : ∃ x, b.getD p 0 = x := ⟨_, rfl⟩
    rw [hx] at hd hxb
    have hcd := ct_drop hd
    cases hof : ofP x with
    | none =>
      obtain ⟨gb1, of2, rfl, hc3⟩ := h1.at0 (k := p) (by omega)
      rw [hx] at hc3
      have hisp : isP (b.drop p) = false := by rw [hd]; exact isP_no hof
      refine cw_seq ?_
      refine cw_seq ?_
      refine cw_region ?_
      refine rw_p 8 (.int .i64 ((p : Nat) : Int)) (fun _ => by kernel_rfl) (fun _ => by kernel_rfl) ?_
      refine rw_p 9 (.slice (some ⟨gb1, of2, none⟩) n c) (fun _ => by kernel_rfl) (fun _ => by kernel_rfl) ?_
      refine rw_p 10 (.int .i64 ((n : Nat) : Int)) (fun _ => by kernel_rfl) (fun _ => by kernel_rfl) ?_
      refine rw_p 11 (.bool true) (fun _ => by kernel_rfl) (fun _ => ol_conv (v := .bool (decide (((p : Nat) : Int) < ((n : Nat) : Int)))) (by kernel_rfl) (congrArg Value.bool (decide_eq_true (by omega)))) ?_
      refine rw_nil ?_
      refine nw_then ?_
      refine cw_cond_t (fun _ => by kernel_rfl) ?_
      refine cw_skip ?_
      refine nw_then ?_
      refine cw_block ?_
      refine cw_seq ?_
      refine cw_region ?_
      refine rw_p 13 (.slice (some ⟨gb1, of2, none⟩) n c) (fun _ => by kernel_rfl) (fun _ => by kernel_rfl) ?_
      refine rw_p 14 (.int .i64 ((p : Nat) : Int)) (fun _ => by kernel_rfl) (fun _ => by kernel_rfl) ?_
      refine rw_call 15 18 #[.slice (some ⟨gb1, of2, none⟩) n c, .int .i64 ((p : Nat) : Int)] (fun _ => by kernel_rfl) (fun _ => by kernel_rfl) (R := RVl wl (.tuple #[.int .i64 ((szP (b.drop p) : Nat) : Int), .bool false])) (by have := rpiece wl h1 hlt; rw [hisp] at this; exact this) ?_
      rintro _ w4 ⟨rfl, hb5⟩
      replace hB := hB.go hb5
      replace h1 := h1.go hb5
      replace hc3 := cell_go hc3 hb5
      refine rw_p 12 (.tuple #[.int .i64 ((szP (b.drop p) : Nat) : Int), .bool false]) (fun _ => by kernel_rfl) (fun _ => by kernel_rfl) ?_
      refine rw_p 16 (.int .i64 ((szP (b.drop p) : Nat) : Int)) (fun _ => by kernel_rfl) (fun _ => by kernel_rfl) ?_
      refine rw_p 17 (.bool false) (fun _ => by kernel_rfl) (fun _ => by kernel_rfl) ?_
      refine rw_p 4 (.int .i64 ((szP (b.drop p) : Nat) : Int)) (fun _ => by kernel_rfl) (fun _ => by kernel_rfl) ?_
      refine rw_p 5 (.bool false) (fun _ => by kernel_rfl) (fun _ => by kernel_rfl) ?_
      refine rw_nil ?_
      refine nw_then ?_
      refine cw_seq ?_
      refine cw_region ?_
      refine rw_p 19 (.slice (some ⟨gb1, of2, none⟩) n c) (fun _ => by kernel_rfl) (fun _ => by kernel_rfl) ?_
      refine rw_p 20 (.int .i64 ((p : Nat) : Int)) (fun _ => by kernel_rfl) (fun _ => by kernel_rfl) ?_
      refine rw_p 21 (.pointer (some ⟨gb1, of2 + p * 1, none⟩)) (fun _ => by kernel_rfl) (fun _ => ol_index 22 _ _ gb1 of2 p n c 1 5 rfl (by kernel_rfl) (by kernel_rfl) (by omega) Tryd.underlying22 (by kernel_rfl)) ?_
      refine rw_p 22 (.int .u8 x) (fun _ => by kernel_rfl) (fun _ => ol_cell 5 _ ⟨gb1, of2 + p * 1, none⟩ _ _ rfl (by kernel_rfl) hc3 Tryd.underlying5 rfl) ?_
      refine rw_call 23 19 #[.int .u8 x] (fun _ => by kernel_rfl) (fun _ => by kernel_rfl) (R := RVl w4 (.tuple #[.agg (NfV nf0), .bool false])) (rof_no hof hxb w4) ?_
      rintro _ w6 ⟨rfl, hb7⟩
      replace hB := hB.go hb7
      replace h1 := h1.go hb7
      replace hc3 := cell_go hc3 hb7
      refine rw_p 18 (.tuple #[.agg (NfV nf0), .bool false]) (fun _ => by kernel_rfl) (fun _ => by kernel_rfl) ?_
      refine rw_p 24 (.agg (NfV nf0)) (fun _ => by kernel_rfl) (fun _ => by kernel_rfl) ?_
      refine rw_p 25 (.bool false) (fun _ => by kernel_rfl) (fun _ => by kernel_rfl) ?_
      refine rw_new 6 (#[.string (strOfNums []), .int .i64 0, .int .i64 0, .int .i64 0, .int .u64 0]) 52 (fun _ => by kernel_rfl) (fun _ => by kernel_rfl) ?_
      intro w8 g9 hn10
      have hzg9 : w.heap.size ≤ g9 := by have := hB.size; have := hn10.hg; omega
      have hr11 : Rw g9 w8 (#[.string (strOfNums []), .int .i64 0, .int .i64 0, .int .i64 0, .int .u64 0]) 52 := hn10.row
      refine rw_put g9 (NfV nf0) (fun _ => by kernel_rfl) (fun _ => ol_store 52 _ _ _ _ _ 52 rfl (by kernel_rfl) (by kernel_rfl) hr11 (by kernel_rfl) rfl (by kernel_rfl)) ?_
      intro w12 hp13
      have hbg9 : Below w6.heap.size w6 w12 := hp13.below hn10.below (Nat.le_of_eq hn10.hg.symm) (by have := hn10.size; have := hn10.hg; omega)
      replace hB := hB.go hbg9
      replace h1 := h1.go hbg9
      replace hc3 := cell_go hc3 hbg9
      have hr14 : Rw g9 w12 (NfV nf0) 52 := hr11.put hp13
      refine rw_p 7 (.bool false) (fun _ => by kernel_rfl) (fun _ => by kernel_rfl) ?_
      refine rw_nil ?_
      refine nw_then ?_
      refine cw_seq ?_
      refine cw_seq ?_
      refine cw_region ?_
      refine rw_p 26 (.bool false) (fun _ => by kernel_rfl) (fun _ => by kernel_rfl) ?_
      refine rw_p 27 (.bool true) (fun _ => by kernel_rfl) (fun _ => by kernel_rfl) ?_
      refine rw_p 28 (.bool true) (fun _ => by kernel_rfl) (fun _ => by kernel_rfl) ?_
      refine rw_p 29 (.bool false) (fun _ => by kernel_rfl) (fun _ => by kernel_rfl) ?_
      refine rw_p 30 (.bool false) (fun _ => by kernel_rfl) (fun _ => by kernel_rfl) ?_
      refine rw_p 31 (.bool false) (fun _ => by kernel_rfl) (fun _ => by kernel_rfl) ?_
      refine rw_off 32 (fun _ => by kernel_rfl) ?_
      refine rw_off 33 (fun _ => by kernel_rfl) ?_
      refine rw_off 34 (fun _ => by kernel_rfl) ?_
      refine rw_p 35 (.bool false) (fun _ => by kernel_rfl) (fun _ => by kernel_rfl) ?_
      refine rw_nil ?_
      refine nw_then ?_
      refine cw_cond_f (fun _ => by kernel_rfl) ?_
      refine cw_skip ?_
      refine nw_then ?_
      refine cw_region ?_
      refine rw_p 36 (.int .i64 ((p : Nat) : Int)) (fun _ => by kernel_rfl) (fun _ => by kernel_rfl) ?_
      refine rw_p 37 (.int .i64 ((szP (b.drop p) : Nat) : Int)) (fun _ => by kernel_rfl) (fun _ => by kernel_rfl) ?_
      refine rw_p 38 (.int .i64 ((p + (szP (b.drop p)) : Nat) : Int)) (fun _ => by kernel_rfl) (fun _ => ol_conv (v := .int .i64 (IntKind.i64.wrap (((p : Nat) : Int) + ((szP (b.drop p) : Nat) : Int)))) (by kernel_rfl) (congrArg (Value.int .i64) (show IntKind.i64.wrap (((p : Nat) : Int) + ((szP (b.drop p) : Nat) : Int)) = ((p + (szP (b.drop p)) : Nat) : Int) from (wrap64 (by omega) (by omega)).trans (by omega)))) ?_
      refine rw_p 3 (.int .i64 ((p + (szP (b.drop p)) : Nat) : Int)) (fun _ => by kernel_rfl) (fun _ => by kernel_rfl) ?_
      refine rw_nil ?_
      refine nw_block ?_
      refine nw_round (X := Nat) (E := fun q => [(0, .slice (some ⟨gb1, of2, none⟩) n c), (3, .int .i64 ((q : Nat) : Int))]) (R := fun q v => q ≤ n ∧ ctF (b.drop q) = ctF b ∧ Bl w v) (μ := fun q => n - q) (x := p) (p + szP (b.drop p)) (by exact ⟨fun _ => by kernel_rfl, ⟨fun _ => by kernel_rfl, trivial⟩⟩) ⟨by omega, ?_, hB⟩ (by show n - (p + szP (b.drop p)) < n - p; omega)
      rw [← hct, ← hcd, hd]; exact (ct_no hof).symm
    | some o =>
      obtain ⟨hbh, -⟩ := nf_small hof
      by_cases hrl : r.length < o.bh
      · skip
        obtain ⟨gb15, of16, rfl, hc17⟩ := h1.at0 (k := p) (by omega)
        rw [hx] at hc17
        have hisp : isP (b.drop p) = false := by rw [hd, isP_some hof, decide_eq_true hrl]; rfl
        refine cw_seq ?_
        refine cw_seq ?_
        refine cw_region ?_
        refine rw_p 8 (.int .i64 ((p : Nat) : Int)) (fun _ => by kernel_rfl) (fun _ => by kernel_rfl) ?_
        refine rw_p 9 (.slice (some ⟨gb15, of16, none⟩) n c) (fun _ => by kernel_rfl) (fun _ => by kernel_rfl) ?_
        refine rw_p 10 (.int .i64 ((n : Nat) : Int)) (fun _ => by kernel_rfl) (fun _ => by kernel_rfl) ?_
        refine rw_p 11 (.bool true) (fun _ => by kernel_rfl) (fun _ => ol_conv (v := .bool (decide (((p : Nat) : Int) < ((n : Nat) : Int)))) (by kernel_rfl) (congrArg Value.bool (decide_eq_true (by omega)))) ?_
        refine rw_nil ?_
        refine nw_then ?_
        refine cw_cond_t (fun _ => by kernel_rfl) ?_
        refine cw_skip ?_
        refine nw_then ?_
        refine cw_block ?_
        refine cw_seq ?_
        refine cw_region ?_
        refine rw_p 13 (.slice (some ⟨gb15, of16, none⟩) n c) (fun _ => by kernel_rfl) (fun _ => by kernel_rfl) ?_
        refine rw_p 14 (.int .i64 ((p : Nat) : Int)) (fun _ => by kernel_rfl) (fun _ => by kernel_rfl) ?_
        refine rw_call 15 18 #[.slice (some ⟨gb15, of16, none⟩) n c, .int .i64 ((p : Nat) : Int)] (fun _ => by kernel_rfl) (fun _ => by kernel_rfl) (R := RVl wl (.tuple #[.int .i64 ((szP (b.drop p) : Nat) : Int), .bool false])) (by have := rpiece wl h1 hlt; rw [hisp] at this; exact this) ?_
        rintro _ w18 ⟨rfl, hb19⟩
        replace hB := hB.go hb19
        replace h1 := h1.go hb19
        replace hc17 := cell_go hc17 hb19
        refine rw_p 12 (.tuple #[.int .i64 ((szP (b.drop p) : Nat) : Int), .bool false]) (fun _ => by kernel_rfl) (fun _ => by kernel_rfl) ?_
        refine rw_p 16 (.int .i64 ((szP (b.drop p) : Nat) : Int)) (fun _ => by kernel_rfl) (fun _ => by kernel_rfl) ?_
        refine rw_p 17 (.bool false) (fun _ => by kernel_rfl) (fun _ => by kernel_rfl) ?_
        refine rw_p 4 (.int .i64 ((szP (b.drop p) : Nat) : Int)) (fun _ => by kernel_rfl) (fun _ => by kernel_rfl) ?_
        refine rw_p 5 (.bool false) (fun _ => by kernel_rfl) (fun _ => by kernel_rfl) ?_
        refine rw_nil ?_
        refine nw_then ?_
        refine cw_seq ?_
        refine cw_region ?_
        refine rw_p 19 (.slice (some ⟨gb15, of16, none⟩) n c) (fun _ => by kernel_rfl) (fun _ => by kernel_rfl) ?_
        refine rw_p 20 (.int .i64 ((p : Nat) : Int)) (fun _ => by kernel_rfl) (fun _ => by kernel_rfl) ?_
        refine rw_p 21 (.pointer (some ⟨gb15, of16 + p * 1, none⟩)) (fun _ => by kernel_rfl) (fun _ => ol_index 22 _ _ gb15 of16 p n c 1 5 rfl (by kernel_rfl) (by kernel_rfl) (by omega) Tryd.underlying22 (by kernel_rfl)) ?_
        refine rw_p 22 (.int .u8 x) (fun _ => by kernel_rfl) (fun _ => ol_cell 5 _ ⟨gb15, of16 + p * 1, none⟩ _ _ rfl (by kernel_rfl) hc17 Tryd.underlying5 rfl) ?_
        refine rw_call 23 19 #[.int .u8 x] (fun _ => by kernel_rfl) (fun _ => by kernel_rfl) (R := RVl w18 (.tuple #[.agg (NfV o), .bool true])) (rof_yes hof hxb w18) ?_
        rintro _ w20 ⟨rfl, hb21⟩
        replace hB := hB.go hb21
        replace h1 := h1.go hb21
        replace hc17 := cell_go hc17 hb21
        refine rw_p 18 (.tuple #[.agg (NfV o), .bool true]) (fun _ => by kernel_rfl) (fun _ => by kernel_rfl) ?_
        refine rw_p 24 (.agg (NfV o)) (fun _ => by kernel_rfl) (fun _ => by kernel_rfl) ?_
        refine rw_p 25 (.bool true) (fun _ => by kernel_rfl) (fun _ => by kernel_rfl) ?_
        refine rw_new 6 (#[.string (strOfNums []), .int .i64 0, .int .i64 0, .int .i64 0, .int .u64 0]) 52 (fun _ => by kernel_rfl) (fun _ => by kernel_rfl) ?_
        intro w22 g23 hn24
        have hzg23 : w.heap.size ≤ g23 := by have := hB.size; have := hn24.hg; omega
        have hr25 : Rw g23 w22 (#[.string (strOfNums []), .int .i64 0, .int .i64 0, .int .i64 0, .int .u64 0]) 52 := hn24.row
        refine rw_put g23 (NfV o) (fun _ => by kernel_rfl) (fun _ => ol_store 52 _ _ _ _ _ 52 rfl (by kernel_rfl) (by kernel_rfl) hr25 (by kernel_rfl) rfl (by kernel_rfl)) ?_
        intro w26 hp27
        have hbg23 : Below w20.heap.size w20 w26 := hp27.below hn24.below (Nat.le_of_eq hn24.hg.symm) (by have := hn24.size; have := hn24.hg; omega)
        replace hB := hB.go hbg23
        replace h1 := h1.go hbg23
        replace hc17 := cell_go hc17 hbg23
        have hr28 : Rw g23 w26 (NfV o) 52 := hr25.put hp27
        refine rw_p 7 (.bool true) (fun _ => by kernel_rfl) (fun _ => by kernel_rfl) ?_
        refine rw_nil ?_
        refine nw_then ?_
        refine cw_seq ?_
        refine cw_seq ?_
        refine cw_region ?_
        refine rw_p 26 (.bool false) (fun _ => by kernel_rfl) (fun _ => by kernel_rfl) ?_
        refine rw_p 27 (.bool true) (fun _ => by kernel_rfl) (fun _ => by kernel_rfl) ?_
        refine rw_p 28 (.bool true) (fun _ => by kernel_rfl) (fun _ => by kernel_rfl) ?_
        refine rw_p 29 (.bool true) (fun _ => by kernel_rfl) (fun _ => by kernel_rfl) ?_
        refine rw_p 30 (.bool true) (fun _ => by kernel_rfl) (fun _ => by kernel_rfl) ?_
        refine rw_p 31 (.bool true) (fun _ => by kernel_rfl) (fun _ => by kernel_rfl) ?_
        refine rw_p 32 (.pointer (some ⟨g23, 1, none⟩)) (fun _ => by kernel_rfl) (fun _ => by kernel_rfl) ?_
        refine rw_p 33 (.int .i64 ((o.bh : Nat) : Int)) (fun _ => by kernel_rfl) (fun _ => ol_cell 3 _ ⟨g23, 1, none⟩ _ _ rfl (by kernel_rfl) (by rw [cell_of_row _ _ _ _ _ _ hr28]; rfl) Tryd.underlying3 rfl) ?_
        refine rw_p 34 (.bool true) (fun _ => by kernel_rfl) (fun _ => ol_conv (v := .bool (decide (((o.bh : Nat) : Int) > (0 : Int)))) (by kernel_rfl) (congrArg Value.bool (decide_eq_true (by omega)))) ?_
        refine rw_p 35 (.bool true) (fun _ => by kernel_rfl) (fun _ => by kernel_rfl) ?_
        refine rw_nil ?_
        refine nw_then ?_
        refine cw_cond_t (fun _ => by kernel_rfl) ?_
        refine cw_seq ?_
        refine cw_region ?_
        refine rw_p 2 (.bool true) (fun _ => by kernel_rfl) (fun _ => by kernel_rfl) ?_
        refine rw_nil ?_
        refine nw_then ?_
        refine cw_ret ?_
        refine nw_ret_then ?_
        refine nw_ret_block ?_
        refine nw_ret_then ?_
        refine nw_ret_block ?_
        refine nw_ret_then ?_
        refine nw_ret_body (.bool true) (fun _ => by kernel_rfl) ?_
        refine ⟨_, rfl, ?_, hB⟩
        rw [← hct, hd, ct_lt hof hrl]
      · skip
        obtain ⟨gb29, of30, rfl, hc31⟩ := h1.at0 (k := p) (by omega)
        rw [hx] at hc31
        have hisp : isP (b.drop p) = true := by rw [hd, isP_some hof, decide_eq_false hrl]; rfl
        refine cw_seq ?_
        refine cw_seq ?_
        refine cw_region ?_
        refine rw_p 8 (.int .i64 ((p : Nat) : Int)) (fun _ => by kernel_rfl) (fun _ => by kernel_rfl) ?_
        refine rw_p 9 (.slice (some ⟨gb29, of30, none⟩) n c) (fun _ => by kernel_rfl) (fun _ => by kernel_rfl) ?_
        refine rw_p 10 (.int .i64 ((n : Nat) : Int)) (fun _ => by kernel_rfl) (fun _ => by kernel_rfl) ?_
        refine rw_p 11 (.bool true) (fun _ => by kernel_rfl) (fun _ => ol_conv (v := .bool (decide (((p : Nat) : Int) < ((n : Nat) : Int)))) (by kernel_rfl) (congrArg Value.bool (decide_eq_true (by omega)))) ?_
        refine rw_nil ?_
        refine nw_then ?_
        refine cw_cond_t (fun _ => by kernel_rfl) ?_
        refine cw_skip ?_
        refine nw_then ?_
        refine cw_block ?_
        refine cw_seq ?_
        refine cw_region ?_
        refine rw_p 13 (.slice (some ⟨gb29, of30, none⟩) n c) (fun _ => by kernel_rfl) (fun _ => by kernel_rfl) ?_
        refine rw_p 14 (.int .i64 ((p : Nat) : Int)) (fun _ => by kernel_rfl) (fun _ => by kernel_rfl) ?_
        refine rw_call 15 18 #[.slice (some ⟨gb29, of30, none⟩) n c, .int .i64 ((p : Nat) : Int)] (fun _ => by kernel_rfl) (fun _ => by kernel_rfl) (R := RVl wl (.tuple #[.int .i64 ((szP (b.drop p) : Nat) : Int), .bool true])) (by have := rpiece wl h1 hlt; rw [hisp] at this; exact this) ?_
        rintro _ w32 ⟨rfl, hb33⟩
        replace hB := hB.go hb33
        replace h1 := h1.go hb33
        replace hc31 := cell_go hc31 hb33
        refine rw_p 12 (.tuple #[.int .i64 ((szP (b.drop p) : Nat) : Int), .bool true]) (fun _ => by kernel_rfl) (fun _ => by kernel_rfl) ?_
        refine rw_p 16 (.int .i64 ((szP (b.drop p) : Nat) : Int)) (fun _ => by kernel_rfl) (fun _ => by kernel_rfl) ?_
        refine rw_p 17 (.bool true) (fun _ => by kernel_rfl) (fun _ => by kernel_rfl) ?_
        refine rw_p 4 (.int .i64 ((szP (b.drop p) : Nat) : Int)) (fun _ => by kernel_rfl) (fun _ => by kernel_rfl) ?_
        refine rw_p 5 (.bool true) (fun _ => by kernel_rfl) (fun _ => by kernel_rfl) ?_
        refine rw_nil ?_
        refine nw_then ?_
        refine cw_seq ?_
        refine cw_region ?_
        refine rw_p 19 (.slice (some ⟨gb29, of30, none⟩) n c) (fun _ => by kernel_rfl) (fun _ => by kernel_rfl) ?_
        refine rw_p 20 (.int .i64 ((p : Nat) : Int)) (fun _ => by kernel_rfl) (fun _ => by kernel_rfl) ?_
        refine rw_p 21 (.pointer (some ⟨gb29, of30 + p * 1, none⟩)) (fun _ => by kernel_rfl) (fun _ => ol_index 22 _ _ gb29 of30 p n c 1 5 rfl (by kernel_rfl) (by kernel_rfl) (by omega) Tryd.underlying22 (by kernel_rfl)) ?_
        refine rw_p 22 (.int .u8 x) (fun _ => by kernel_rfl) (fun _ => ol_cell 5 _ ⟨gb29, of30 + p * 1, none⟩ _ _ rfl (by kernel_rfl) hc31 Tryd.underlying5 rfl) ?_
        refine rw_call 23 19 #[.int .u8 x] (fun _ => by kernel_rfl) (fun _ => by kernel_rfl) (R := RVl w32 (.tuple #[.agg (NfV o), .bool true])) (rof_yes hof hxb w32) ?_
        rintro _ w34 ⟨rfl, hb35⟩
        replace hB := hB.go hb35
        replace h1 := h1.go hb35
        replace hc31 := cell_go hc31 hb35
        refine rw_p 18 (.tuple #[.agg (NfV o), .bool true]) (fun _ => by kernel_rfl) (fun _ => by kernel_rfl) ?_
        refine rw_p 24 (.agg (NfV o)) (fun _ => by kernel_rfl) (fun _ => by kernel_rfl) ?_
        refine rw_p 25 (.bool true) (fun _ => by kernel_rfl) (fun _ => by kernel_rfl) ?_
        refine rw_new 6 (#[.string (strOfNums []), .int .i64 0, .int .i64 0, .int .i64 0, .int .u64 0]) 52 (fun _ => by kernel_rfl) (fun _ => by kernel_rfl) ?_
        intro w36 g37 hn38
        have hzg37 : w.heap.size ≤ g37 := by have := hB.size; have := hn38.hg; omega
        have hr39 : Rw g37 w36 (#[.string (strOfNums []), .int .i64 0, .int .i64 0, .int .i64 0, .int .u64 0]) 52 := hn38.row
        refine rw_put g37 (NfV o) (fun _ => by kernel_rfl) (fun _ => ol_store 52 _ _ _ _ _ 52 rfl (by kernel_rfl) (by kernel_rfl) hr39 (by kernel_rfl) rfl (by kernel_rfl)) ?_
        intro w40 hp41
        have hbg37 : Below w34.heap.size w34 w40 := hp41.below hn38.below (Nat.le_of_eq hn38.hg.symm) (by have := hn38.size; have := hn38.hg; omega)
        replace hB := hB.go hbg37
        replace h1 := h1.go hbg37
        replace hc31 := cell_go hc31 hbg37
        have hr42 : Rw g37 w40 (NfV o) 52 := hr39.put hp41
        refine rw_p 7 (.bool true) (fun _ => by kernel_rfl) (fun _ => by kernel_rfl) ?_
        refine rw_nil ?_
        refine nw_then ?_
        refine cw_seq ?_
        refine cw_seq ?_
        refine cw_region ?_
        refine rw_p 26 (.bool true) (fun _ => by kernel_rfl) (fun _ => by kernel_rfl) ?_
        refine rw_p 27 (.bool false) (fun _ => by kernel_rfl) (fun _ => by kernel_rfl) ?_
        refine rw_p 28 (.bool false) (fun _ => by kernel_rfl) (fun _ => by kernel_rfl) ?_
        refine rw_off 29 (fun _ => by kernel_rfl) ?_
        refine rw_p 30 (.bool false) (fun _ => by kernel_rfl) (fun _ => by kernel_rfl) ?_
        refine rw_p 31 (.bool false) (fun _ => by kernel_rfl) (fun _ => by kernel_rfl) ?_
        refine rw_off 32 (fun _ => by kernel_rfl) ?_
        refine rw_off 33 (fun _ => by kernel_rfl) ?_
        refine rw_off 34 (fun _ => by kernel_rfl) ?_
        refine rw_p 35 (.bool false) (fun _ => by kernel_rfl) (fun _ => by kernel_rfl) ?_
        refine rw_nil ?_
        refine nw_then ?_
        refine cw_cond_f (fun _ => by kernel_rfl) ?_
        refine cw_skip ?_
        refine nw_then ?_
        refine cw_region ?_
        refine rw_p 36 (.int .i64 ((p : Nat) : Int)) (fun _ => by kernel_rfl) (fun _ => by kernel_rfl) ?_
        refine rw_p 37 (.int .i64 ((szP (b.drop p) : Nat) : Int)) (fun _ => by kernel_rfl) (fun _ => by kernel_rfl) ?_
        refine rw_p 38 (.int .i64 ((p + (szP (b.drop p)) : Nat) : Int)) (fun _ => by kernel_rfl) (fun _ => ol_conv (v := .int .i64 (IntKind.i64.wrap (((p : Nat) : Int) + ((szP (b.drop p) : Nat) : Int)))) (by kernel_rfl) (congrArg (Value.int .i64) (show IntKind.i64.wrap (((p : Nat) : Int) + ((szP (b.drop p) : Nat) : Int)) = ((p + (szP (b.drop p)) : Nat) : Int) from (wrap64 (by omega) (by omega)).trans (by omega)))) ?_
        refine rw_p 3 (.int .i64 ((p + (szP (b.drop p)) : Nat) : Int)) (fun _ => by kernel_rfl) (fun _ => by kernel_rfl) ?_
        refine rw_nil ?_
        refine nw_block ?_
        refine nw_round (X := Nat) (E := fun q => [(0, .slice (some ⟨gb29, of30, none⟩) n c), (3, .int .i64 ((q : Nat) : Int))]) (R := fun q v => q ≤ n ∧ ctF (b.drop q) = ctF b ∧ Bl w v) (μ := fun q => n - q) (x := p) (p + szP (b.drop p)) (by exact ⟨fun _ => by kernel_rfl, ⟨fun _ => by kernel_rfl, trivial⟩⟩) ⟨by omega, ?_, hB⟩ (by show n - (p + szP (b.drop p)) < n - p; omega)
        rw [← hct, ← hcd, hd]; exact (ct_ge hof hrl).symm
  · skip
    refine cw_seq ?_
    refine cw_seq ?_
    refine cw_region ?_
    refine rw_p 8 (.int .i64 ((p : Nat) : Int)) (fun _ => by kernel_rfl) (fun _ => by kernel_rfl) ?_
    refine rw_p 9 (.slice a n c) (fun _ => by kernel_rfl) (fun _ => by kernel_rfl) ?_
    refine rw_p 10 (.int .i64 ((n : Nat) : Int)) (fun _ => by kernel_rfl) (fun _ => by kernel_rfl) ?_
    refine rw_p 11 (.bool false) (fun _ => by kernel_rfl) (fun _ => ol_conv (v := .bool (decide (((p : Nat) : Int) < ((n : Nat) : Int)))) (by kernel_rfl) (congrArg Value.bool (decide_eq_false (by omega)))) ?_
    refine rw_nil ?_
    refine nw_then ?_
    refine cw_cond_f (fun _ => by kernel_rfl) ?_
    refine cw_exit ?_
    refine nw_exit_then ?_
    refine nw_exit_then ?_
    refine nw_exit_here ?_
    refine nw_then ?_
    refine cw_seq ?_
    refine cw_region ?_
    refine rw_p 2 (.bool false) (fun _ => by kernel_rfl) (fun _ => by kernel_rfl) ?_
    refine rw_nil ?_
    refine nw_then ?_
    refine cw_ret ?_
    refine nw_ret_body (.bool false) (fun _ => by kernel_rfl) ?_
    refine ⟨_, rfl, ?_, hB⟩
    rw [← hct, show b.drop p = [] from List.drop_of_length_le (by omega)]; rfl
set_option maxHeartbeats 4000000 in
theorem pieces_long {a : Option Addr} {n c : Nat} {b : List Int} {k : Int} (w : World) (ht : Tb w) (h : Ag w a n c b) (hn : n ≤ 1048576) (hk : 0 ≤ k ∧ k < 18446744073709551616) (hn2 : 256 < n) : Calls Tryd.prog 4 #[.slice a n c, .int .u64 k] w (Law14 w) := by
  have ht0 := ht
  have hB : Bl w w := Bl.refl w
  refine cw_enter Tryd.func4 rfl 66 rfl ?_
  show CW _ _ _ _ _ _ _ [(0, .slice a n c), (1, .int .u64 k)] _
  have hlb := h.l
  obtain ⟨ms, hms⟩ : ∃ ms, mkF 0 b = ms := ⟨_, rfl⟩
  have hml : ms.length ≤ n := by rw [← hms, ← hlb]; exact mk_len b
  have hpr := pr_long (l := b) (by omega)
  refine cw_seq ?_
  refine cw_region ?_
  refine rw_p 4 (.bool false) (fun _ => by kernel_rfl) (fun _ => by kernel_rfl) ?_
  refine rw_nil ?_
  refine nw_then ?_
  refine cw_seq ?_
  refine cw_region ?_
  refine rw_p 10 (.slice a n c) (fun _ => by kernel_rfl) (fun _ => by kernel_rfl) ?_
  refine rw_call 11 8 #[.slice a n c] (fun _ => by kernel_rfl) (fun _ => by kernel_rfl) (R := RIl w ms) (by have := wmarks w h ht hn; rw [hms] at this; exact this) ?_
  rintro u0 w1 ⟨ho0, hb2⟩
  replace hB := hB.go hb2
  replace ht := ht.go hb2
  replace h := h.go hb2
  refine rw_p 5 (u0) (fun _ => by kernel_rfl) (fun _ => by kernel_rfl) ?_
  refine rw_nil ?_
  refine nw_then ?_
  refine cw_seq ?_
  refine cw_region ?_
  refine rw_p 13 (.slice a n c) (fun _ => by kernel_rfl) (fun _ => by kernel_rfl) ?_
  refine rw_call 14 9 #[.slice a n c] (fun _ => by kernel_rfl) (fun _ => by kernel_rfl) (R := RVl w1 (.tuple #[.string (strOfNums ([])), .int .i64 142])) (by have := wprt w1 h ht; rw [hpr] at this; exact this) ?_
  rintro _ w3 ⟨rfl, hb4⟩
  replace hB := hB.go hb4
  replace ht := ht.go hb4
  replace h := h.go hb4
  replace ho0 := ho0.go hb4
  refine rw_p 12 (.tuple #[.string (strOfNums ([])), .int .i64 142]) (fun _ => by kernel_rfl) (fun _ => by kernel_rfl) ?_
  refine rw_p 15 (.string (strOfNums ([]))) (fun _ => by kernel_rfl) (fun _ => by kernel_rfl) ?_
  refine rw_p 16 (.int .i64 142) (fun _ => by kernel_rfl) (fun _ => by kernel_rfl) ?_
  refine rw_p 6 (.string (strOfNums ([]))) (fun _ => by kernel_rfl) (fun _ => by kernel_rfl) ?_
  refine rw_p 7 (.int .i64 142) (fun _ => by kernel_rfl) (fun _ => by kernel_rfl) ?_
  refine rw_nil ?_
  refine nw_then ?_
  refine cw_seq ?_
  refine cw_seq ?_
  refine cw_region ?_
  refine rw_p 17 (.int .i64 142) (fun _ => by kernel_rfl) (fun _ => by kernel_rfl) ?_
  refine rw_p 18 (.bool true) (fun _ => by kernel_rfl) (fun _ => by kernel_rfl) ?_
  refine rw_p 19 (.bool true) (fun _ => by kernel_rfl) (fun _ => by kernel_rfl) ?_
  refine rw_off 20 (fun _ => by kernel_rfl) ?_
  refine rw_off 21 (fun _ => by kernel_rfl) ?_
  refine rw_off 22 (fun _ => by kernel_rfl) ?_
  refine rw_p 23 (.bool true) (fun _ => by kernel_rfl) (fun _ => by kernel_rfl) ?_
  refine rw_p 24 (.bool true) (fun _ => by kernel_rfl) (fun _ => by kernel_rfl) ?_
  refine rw_off 25 (fun _ => by kernel_rfl) ?_
  refine rw_off 26 (fun _ => by kernel_rfl) ?_
  refine rw_off 27 (fun _ => by kernel_rfl) ?_
  refine rw_off 28 (fun _ => by kernel_rfl) ?_
  refine rw_off 29 (fun _ => by kernel_rfl) ?_
  refine rw_off 30 (fun _ => by kernel_rfl) ?_
  refine rw_off 31 (fun _ => by kernel_rfl) ?_
  refine rw_p 32 (.bool true) (fun _ => by kernel_rfl) (fun _ => by kernel_rfl) ?_
  refine rw_nil ?_
  refine nw_then ?_
  refine cw_cond_t (fun _ => by kernel_rfl) ?_
  refine cw_seq ?_
  refine cw_region ?_
  refine rw_call 33 6 #[] (fun _ => by kernel_rfl) (fun _ => by kernel_rfl) (R := RVl w3 (.bool true)) (walive w3 ht) ?_
  rintro _ w5 ⟨rfl, hb6⟩
  replace hB := hB.go hb6
  replace ht := ht.go hb6
  replace h := h.go hb6
  replace ho0 := ho0.go hb6
  refine rw_p 4 (.bool true) (fun _ => by kernel_rfl) (fun _ => by kernel_rfl) ?_
  refine rw_nil ?_
  refine nw_then ?_
  refine cw_ret ?_
  refine nw_ret_then ?_
  refine nw_ret_body (.bool true) (fun _ => by kernel_rfl) ?_
  exact ⟨rfl, hB⟩
set_option maxHeartbeats 4000000 in
theorem pieces_most {a : Option Addr} {n c : Nat} {b : List Int} {k : Int} (w : World) (ht : Tb w) (h : Ag w a n c b) (hn : n ≤ 1048576) (hk : 0 ≤ k ∧ k < 18446744073709551616) (hn2 : ¬ 256 < n) (hn3 : 246 < n) : Calls Tryd.prog 4 #[.slice a n c, .int .u64 k] w (Law14 w) := by
  have ht0 := ht
  have hB : Bl w w := Bl.refl w
  refine cw_enter Tryd.func4 rfl 66 rfl ?_
  show CW _ _ _ _ _ _ _ [(0, .slice a n c), (1, .int .u64 k)] _
  have hlb := h.l
  obtain ⟨ms, hms⟩ : ∃ ms, mkF 0 b = ms := ⟨_, rfl⟩
  have hml : ms.length ≤ n := by rw [← hms, ← hlb]; exact mk_len b
  obtain ⟨hbT, hlT, hT3⟩ := pr_byt h.b
  have hT4 := pr_ne2 h.b
  obtain ⟨T, er, hpr⟩ : ∃ T er, prP b = (T, er) := ⟨_, _, rfl⟩
  rw [hpr] at hbT hlT hT3 hT4
  simp only at hbT hlT hT3 hT4
  obtain rfl : er = 0 := hT3.2 (by omega)
  refine cw_seq ?_
  refine cw_region ?_
  refine rw_p 4 (.bool false) (fun _ => by kernel_rfl) (fun _ => by kernel_rfl) ?_
  refine rw_nil ?_
  refine nw_then ?_
  refine cw_seq ?_
  refine cw_region ?_
  refine rw_p 10 (.slice a n c) (fun _ => by kernel_rfl) (fun _ => by kernel_rfl) ?_
  refine rw_call 11 8 #[.slice a n c] (fun _ => by kernel_rfl) (fun _ => by kernel_rfl) (R := RIl w ms) (by have := wmarks w h ht hn; rw [hms] at this; exact this) ?_
  rintro u0 w1 ⟨ho0, hb2⟩
  replace hB := hB.go hb2
  replace ht := ht.go hb2
  replace h := h.go hb2
  refine rw_p 5 (u0) (fun _ => by kernel_rfl) (fun _ => by kernel_rfl) ?_
  refine rw_nil ?_
  refine nw_then ?_
  refine cw_seq ?_
  refine cw_region ?_
  refine rw_p 13 (.slice a n c) (fun _ => by kernel_rfl) (fun _ => by kernel_rfl) ?_
  refine rw_call 14 9 #[.slice a n c] (fun _ => by kernel_rfl) (fun _ => by kernel_rfl) (R := RVl w1 (.tuple #[.string (strOfNums T), .int .i64 0])) (by have := wprt w1 h ht; rw [hpr] at this; exact this) ?_
  rintro _ w3 ⟨rfl, hb4⟩
  replace hB := hB.go hb4
  replace ht := ht.go hb4
  replace h := h.go hb4
  replace ho0 := ho0.go hb4
  refine rw_p 12 (.tuple #[.string (strOfNums T), .int .i64 0]) (fun _ => by kernel_rfl) (fun _ => by kernel_rfl) ?_
  refine rw_p 15 (.string (strOfNums T)) (fun _ => by kernel_rfl) (fun _ => by kernel_rfl) ?_
  refine rw_p 16 (.int .i64 0) (fun _ => by kernel_rfl) (fun _ => by kernel_rfl) ?_
  refine rw_p 6 (.string (strOfNums T)) (fun _ => by kernel_rfl) (fun _ => by kernel_rfl) ?_
  refine rw_p 7 (.int .i64 0) (fun _ => by kernel_rfl) (fun _ => by kernel_rfl) ?_
  refine rw_nil ?_
  refine nw_then ?_
  refine cw_seq ?_
  refine cw_seq ?_
  refine cw_region ?_
  refine rw_p 17 (.int .i64 0) (fun _ => by kernel_rfl) (fun _ => by kernel_rfl) ?_
  refine rw_p 18 (.bool false) (fun _ => by kernel_rfl) (fun _ => by kernel_rfl) ?_
  refine rw_p 19 (.bool false) (fun _ => by kernel_rfl) (fun _ => by kernel_rfl) ?_
  refine rw_p 20 (.slice a n c) (fun _ => by kernel_rfl) (fun _ => by kernel_rfl) ?_
  refine rw_p 21 (.int .i64 ((n : Nat) : Int)) (fun _ => by kernel_rfl) (fun _ => by kernel_rfl) ?_
  refine rw_p 22 (.bool true) (fun _ => by kernel_rfl) (fun _ => ol_conv (v := .bool (decide (((n : Nat) : Int) > (246 : Int)))) (by kernel_rfl) (congrArg Value.bool (decide_eq_true (by omega)))) ?_
  refine rw_p 23 (.bool true) (fun _ => by kernel_rfl) (fun _ => by kernel_rfl) ?_
  refine rw_p 24 (.bool true) (fun _ => by kernel_rfl) (fun _ => by kernel_rfl) ?_
  refine rw_off 25 (fun _ => by kernel_rfl) ?_
  refine rw_off 26 (fun _ => by kernel_rfl) ?_
  refine rw_off 27 (fun _ => by kernel_rfl) ?_
  refine rw_off 28 (fun _ => by kernel_rfl) ?_
  refine rw_off 29 (fun _ => by kernel_rfl) ?_
  refine rw_off 30 (fun _ => by kernel_rfl) ?_
  refine rw_off 31 (fun _ => by kernel_rfl) ?_
  refine rw_p 32 (.bool true) (fun _ => by kernel_rfl) (fun _ => by kernel_rfl) ?_
  refine rw_nil ?_
  refine nw_then ?_
  refine cw_cond_t (fun _ => by kernel_rfl) ?_
  refine cw_seq ?_
  refine cw_region ?_
  refine rw_call 33 6 #[] (fun _ => by kernel_rfl) (fun _ => by kernel_rfl) (R := RVl w3 (.bool true)) (walive w3 ht) ?_
  rintro _ w5 ⟨rfl, hb6⟩
  replace hB := hB.go hb6
  replace ht := ht.go hb6
  replace h := h.go hb6
  replace ho0 := ho0.go hb6
  refine rw_p 4 (.bool true) (fun _ => by kernel_rfl) (fun _ => by kernel_rfl) ?_
  refine rw_nil ?_
  refine nw_then ?_
  refine cw_ret ?_
  refine nw_ret_then ?_
  refine nw_ret_body (.bool true) (fun _ => by kernel_rfl) ?_
  exact ⟨rfl, hB⟩
set_option maxHeartbeats 4000000 in
theorem pieces_cut {a : Option Addr} {n c : Nat} {b : List Int} {k : Int} (w : World) (ht : Tb w) (h : Ag w a n c b) (hn : n ≤ 1048576) (hk : 0 ≤ k ∧ k < 18446744073709551616) (hn2 : n ≤ 246) (hne : 0 < n) (hcut : ctF b = true) : Calls Tryd.prog 4 #[.slice a n c, .int .u64 k] w (Law14 w) := by
  have ht0 := ht
  have hB : Bl w w := Bl.refl w
  refine cw_enter Tryd.func4 rfl 66 rfl ?_
  show CW _ _ _ _ _ _ _ [(0, .slice a n c), (1, .int .u64 k)] _
  have hlb := h.l
  obtain ⟨ms, hms⟩ : ∃ ms, mkF 0 b = ms := ⟨_, rfl⟩
  have hml : ms.length ≤ n := by rw [← hms, ← hlb]; exact mk_len b
  obtain ⟨hbT, hlT, hT3⟩ := pr_byt h.b
  have hT4 := pr_ne2 h.b
  obtain ⟨T, er, hpr⟩ : ∃ T er, prP b = (T, er) := ⟨_, _, rfl⟩
  rw [hpr] at hbT hlT hT3 hT4
  simp only at hbT hlT hT3 hT4
  obtain rfl : er = 0 := hT3.2 (by omega)
  have hTp : 0 < T.length := hT4 (fun e => by rw [e] at hlb; simp at hlb; omega) (by omega)
  refine cw_seq ?_
  refine cw_region ?_
  refine rw_p 4 (.bool false) (fun _ => by kernel_rfl) (fun _ => by kernel_rfl) ?_
  refine rw_nil ?_
  refine nw_then ?_
  refine cw_seq ?_
  refine cw_region ?_
  refine rw_p 10 (.slice a n c) (fun _ => by kernel_rfl) (fun _ => by kernel_rfl) ?_
  refine rw_call 11 8 #[.slice a n c] (fun _ => by kernel_rfl) (fun _ => by kernel_rfl) (R := RIl w ms) (by have := wmarks w h ht hn; rw [hms] at this; exact this) ?_
  rintro u0 w1 ⟨ho0, hb2⟩
  replace hB := hB.go hb2
  replace ht := ht.go hb2
  replace h := h.go hb2
  refine rw_p 5 (u0) (fun _ => by kernel_rfl) (fun _ => by kernel_rfl) ?_
  refine rw_nil ?_
  refine nw_then ?_
  refine cw_seq ?_
  refine cw_region ?_
  refine rw_p 13 (.slice a n c) (fun _ => by kernel_rfl) (fun _ => by kernel_rfl) ?_
  refine rw_call 14 9 #[.slice a n c] (fun _ => by kernel_rfl) (fun _ => by kernel_rfl) (R := RVl w1 (.tuple #[.string (strOfNums T), .int .i64 0])) (by have := wprt w1 h ht; rw [hpr] at this; exact this) ?_
  rintro _ w3 ⟨rfl, hb4⟩
  replace hB := hB.go hb4
  replace ht := ht.go hb4
  replace h := h.go hb4
  replace ho0 := ho0.go hb4
  refine rw_p 12 (.tuple #[.string (strOfNums T), .int .i64 0]) (fun _ => by kernel_rfl) (fun _ => by kernel_rfl) ?_
  refine rw_p 15 (.string (strOfNums T)) (fun _ => by kernel_rfl) (fun _ => by kernel_rfl) ?_
  refine rw_p 16 (.int .i64 0) (fun _ => by kernel_rfl) (fun _ => by kernel_rfl) ?_
  refine rw_p 6 (.string (strOfNums T)) (fun _ => by kernel_rfl) (fun _ => by kernel_rfl) ?_
  refine rw_p 7 (.int .i64 0) (fun _ => by kernel_rfl) (fun _ => by kernel_rfl) ?_
  refine rw_nil ?_
  refine nw_then ?_
  refine cw_seq ?_
  refine cw_seq ?_
  refine cw_region ?_
  refine rw_p 17 (.int .i64 0) (fun _ => by kernel_rfl) (fun _ => by kernel_rfl) ?_
  refine rw_p 18 (.bool false) (fun _ => by kernel_rfl) (fun _ => by kernel_rfl) ?_
  refine rw_p 19 (.bool false) (fun _ => by kernel_rfl) (fun _ => by kernel_rfl) ?_
  refine rw_p 20 (.slice a n c) (fun _ => by kernel_rfl) (fun _ => by kernel_rfl) ?_
  refine rw_p 21 (.int .i64 ((n : Nat) : Int)) (fun _ => by kernel_rfl) (fun _ => by kernel_rfl) ?_
  refine rw_p 22 (.bool false) (fun _ => by kernel_rfl) (fun _ => ol_conv (v := .bool (decide (((n : Nat) : Int) > (246 : Int)))) (by kernel_rfl) (congrArg Value.bool (decide_eq_false (by omega)))) ?_
  refine rw_p 23 (.bool false) (fun _ => by kernel_rfl) (fun _ => by kernel_rfl) ?_
  refine rw_p 24 (.bool false) (fun _ => by kernel_rfl) (fun _ => by kernel_rfl) ?_
  refine rw_p 25 (.string (strOfNums T)) (fun _ => by kernel_rfl) (fun _ => by kernel_rfl) ?_
  refine rw_p 26 (.int .i64 ((T.length : Nat) : Int)) (fun _ => by kernel_rfl) (fun _ => ol_len9 _ T rfl Tryd.underlying9 (by kernel_rfl)) ?_
  refine rw_p 27 (.bool true) (fun _ => by kernel_rfl) (fun _ => ol_conv (v := .bool (decide (((T.length : Nat) : Int) > (0 : Int)))) (by kernel_rfl) (congrArg Value.bool (decide_eq_true (by omega)))) ?_
  refine rw_p 28 (.bool true) (fun _ => by kernel_rfl) (fun _ => by kernel_rfl) ?_
  refine rw_p 29 (.slice a n c) (fun _ => by kernel_rfl) (fun _ => by kernel_rfl) ?_
  refine rw_call 30 10 #[.slice a n c] (fun _ => by kernel_rfl) (fun _ => by kernel_rfl) (R := RVl w3 (.bool true)) (by have := wcut w3 h hn; rw [hcut] at this; exact this) ?_
  rintro _ w5 ⟨rfl, hb6⟩
  replace hB := hB.go hb6
  replace ht := ht.go hb6
  replace h := h.go hb6
  replace ho0 := ho0.go hb6
  refine rw_p 31 (.bool true) (fun _ => by kernel_rfl) (fun _ => by kernel_rfl) ?_
  refine rw_p 32 (.bool true) (fun _ => by kernel_rfl) (fun _ => by kernel_rfl) ?_
  refine rw_nil ?_
  refine nw_then ?_
  refine cw_cond_t (fun _ => by kernel_rfl) ?_
  refine cw_seq ?_
  refine cw_region ?_
  refine rw_call 33 6 #[] (fun _ => by kernel_rfl) (fun _ => by kernel_rfl) (R := RVl w5 (.bool true)) (walive w5 ht) ?_
  rintro _ w7 ⟨rfl, hb8⟩
  replace hB := hB.go hb8
  replace ht := ht.go hb8
  replace h := h.go hb8
  replace ho0 := ho0.go hb8
  refine rw_p 4 (.bool true) (fun _ => by kernel_rfl) (fun _ => by kernel_rfl) ?_
  refine rw_nil ?_
  refine nw_then ?_
  refine cw_ret ?_
  refine nw_ret_then ?_
  refine nw_ret_body (.bool true) (fun _ => by kernel_rfl) ?_
  exact ⟨rfl, hB⟩
set_option maxHeartbeats 4000000 in
theorem pieces_none {a : Option Addr} {n c : Nat} {b : List Int} {k : Int} (w : World) (ht : Tb w) (h : Ag w a n c b) (hn : n ≤ 1048576) (hk : 0 ≤ k ∧ k < 18446744073709551616) (hn2 : n = 0) (hcut : ctF b = false) : Calls Tryd.prog 4 #[.slice a n c, .int .u64 k] w (Law14 w) := by
  have ht0 := ht
  have hB : Bl w w := Bl.refl w
  refine cw_enter Tryd.func4 rfl 66 rfl ?_
  show CW _ _ _ _ _ _ _ [(0, .slice a n c), (1, .int .u64 k)] _
  have hlb := h.l
  obtain ⟨ms, hms⟩ : ∃ ms, mkF 0 b = ms := ⟨_, rfl⟩
  have hml : ms.length ≤ n := by rw [← hms, ← hlb]; exact mk_len b
  obtain ⟨hbT, hlT, hT3⟩ := pr_byt h.b
  have hT4 := pr_ne2 h.b
  obtain ⟨T, er, hpr⟩ : ∃ T er, prP b = (T, er) := ⟨_, _, rfl⟩
  rw [hpr] at hbT hlT hT3 hT4
  simp only at hbT hlT hT3 hT4
  obtain rfl : er = 0 := hT3.2 (by omega)
  have hb0 : b = [] := List.eq_nil_of_length_eq_zero (by omega)
  have hT0 : T.length = 0 := by rw [hb0] at hpr; have := congrArg (fun q => q.1.length) hpr; exact this.symm
  refine cw_seq ?_
  refine cw_region ?_
  refine rw_p 4 (.bool false) (fun _ => by kernel_rfl) (fun _ => by kernel_rfl) ?_
  refine rw_nil ?_
  refine nw_then ?_
  refine cw_seq ?_
  refine cw_region ?_
  refine rw_p 10 (.slice a n c) (fun _ => by kernel_rfl) (fun _ => by kernel_rfl) ?_
  refine rw_call 11 8 #[.slice a n c] (fun _ => by kernel_rfl) (fun _ => by kernel_rfl) (R := RIl w ms) (by have := wmarks w h ht hn; rw [hms] at this; exact this) ?_
  rintro u0 w1 ⟨ho0, hb2⟩
  replace hB := hB.go hb2
  replace ht := ht.go hb2
  replace h := h.go hb2
  refine rw_p 5 (u0) (fun _ => by kernel_rfl) (fun _ => by kernel_rfl) ?_
  refine rw_nil ?_
  refine nw_then ?_
  refine cw_seq ?_
  refine cw_region ?_
  refine rw_p 13 (.slice a n c) (fun _ => by kernel_rfl) (fun _ => by kernel_rfl) ?_
  refine rw_call 14 9 #[.slice a n c] (fun _ => by kernel_rfl) (fun _ => by kernel_rfl) (R := RVl w1 (.tuple #[.string (strOfNums T), .int .i64 0])) (by have := wprt w1 h ht; rw [hpr] at this; exact this) ?_
  rintro _ w3 ⟨rfl, hb4⟩
  replace hB := hB.go hb4
  replace ht := ht.go hb4
  replace h := h.go hb4
  replace ho0 := ho0.go hb4
  refine rw_p 12 (.tuple #[.string (strOfNums T), .int .i64 0]) (fun _ => by kernel_rfl) (fun _ => by kernel_rfl) ?_
  refine rw_p 15 (.string (strOfNums T)) (fun _ => by kernel_rfl) (fun _ => by kernel_rfl) ?_
  refine rw_p 16 (.int .i64 0) (fun _ => by kernel_rfl) (fun _ => by kernel_rfl) ?_
  refine rw_p 6 (.string (strOfNums T)) (fun _ => by kernel_rfl) (fun _ => by kernel_rfl) ?_
  refine rw_p 7 (.int .i64 0) (fun _ => by kernel_rfl) (fun _ => by kernel_rfl) ?_
  refine rw_nil ?_
  refine nw_then ?_
  refine cw_seq ?_
  refine cw_seq ?_
  refine cw_region ?_
  refine rw_p 17 (.int .i64 0) (fun _ => by kernel_rfl) (fun _ => by kernel_rfl) ?_
  refine rw_p 18 (.bool false) (fun _ => by kernel_rfl) (fun _ => by kernel_rfl) ?_
  refine rw_p 19 (.bool false) (fun _ => by kernel_rfl) (fun _ => by kernel_rfl) ?_
  refine rw_p 20 (.slice a n c) (fun _ => by kernel_rfl) (fun _ => by kernel_rfl) ?_
  refine rw_p 21 (.int .i64 ((n : Nat) : Int)) (fun _ => by kernel_rfl) (fun _ => by kernel_rfl) ?_
  refine rw_p 22 (.bool false) (fun _ => by kernel_rfl) (fun _ => ol_conv (v := .bool (decide (((n : Nat) : Int) > (246 : Int)))) (by kernel_rfl) (congrArg Value.bool (decide_eq_false (by omega)))) ?_
  refine rw_p 23 (.bool false) (fun _ => by kernel_rfl) (fun _ => by kernel_rfl) ?_
  refine rw_p 24 (.bool false) (fun _ => by kernel_rfl) (fun _ => by kernel_rfl) ?_
  refine rw_p 25 (.string (strOfNums T)) (fun _ => by kernel_rfl) (fun _ => by kernel_rfl) ?_
  refine rw_p 26 (.int .i64 ((T.length : Nat) : Int)) (fun _ => by kernel_rfl) (fun _ => ol_len9 _ T rfl Tryd.underlying9 (by kernel_rfl)) ?_
  refine rw_p 27 (.bool false) (fun _ => by kernel_rfl) (fun _ => ol_conv (v := .bool (decide (((T.length : Nat) : Int) > (0 : Int)))) (by kernel_rfl) (congrArg Value.bool (decide_eq_false (by omega)))) ?_
  refine rw_p 28 (.bool false) (fun _ => by kernel_rfl) (fun _ => by kernel_rfl) ?_
  refine rw_off 29 (fun _ => by kernel_rfl) ?_
  refine rw_off 30 (fun _ => by kernel_rfl) ?_
  refine rw_p 31 (.bool false) (fun _ => by kernel_rfl) (fun _ => by kernel_rfl) ?_
  refine rw_p 32 (.bool false) (fun _ => by kernel_rfl) (fun _ => by kernel_rfl) ?_
  refine rw_nil ?_
  refine nw_then ?_
  refine cw_cond_f (fun _ => by kernel_rfl) ?_
  refine cw_skip ?_
  refine nw_then ?_
  refine cw_seq ?_
  refine cw_region ?_
  refine rw_p 34 (.slice a n c) (fun _ => by kernel_rfl) (fun _ => by kernel_rfl) ?_
  obtain ⟨W0, hW0⟩ : ∃ W9, W9 = w3 := ⟨_, rfl⟩
  rw [← hW0]
  rw [← hW0] at hB
  rw [← hW0] at ht
  rw [← hW0] at h
  rw [← hW0] at ho0
  obtain ⟨v5, w6, hr7, ho8, hb9⟩ := app_run (ownB_nil W0 W0.heap.size) h (by simp; omega) (Nat.le_refl _)
  rw [List.nil_append] at ho8
  refine rw_v 35 v5 (fun _ => by kernel_rfl) (fun _ => ol_app hr7 _ _ rfl (by kernel_rfl) (by kernel_rfl)) ?_
  have hX := hb9
  refine rw_p 8 (v5) (fun _ => by kernel_rfl) (fun _ => by kernel_rfl) ?_
  refine rw_nil ?_
  refine nw_then ?_
  refine cw_seq ?_
  refine cw_region ?_
  refine rw_p 36 (v5) (fun _ => by kernel_rfl) (fun _ => by kernel_rfl) ?_
  refine rw_newS 37 #[.int .u8 39] 5 1 (fun _ => by kernel_rfl) (fun _ => by kernel_rfl) ?_
  intro w10 g11 hn12
  replace ho8 := ho8.go hn12.below
  replace hX := hX.trans ((hn12.below).mono hX.size)
  have ha13 : Ag w10 (some ⟨g11, 0, none⟩) 1 1 [39] := row_ag (show Row g11 w10 [39] from hn12.row) rfl (fun x hx => by simp at hx; omega) (by omega)
  obtain ⟨v14, w15, hr16, ho17, hb18⟩ := app_run ho8 ha13 (by simp; omega) hX.size
  refine rw_v 38 v14 (fun _ => by kernel_rfl) (fun _ => ol_app hr16 _ _ rfl (by kernel_rfl) (by kernel_rfl)) ?_
  replace hX := hX.trans hb18
  refine rw_p 8 (v14) (fun _ => by kernel_rfl) (fun _ => by kernel_rfl) ?_
  refine rw_nil ?_
  refine nw_then ?_
  refine cw_seq ?_
  refine cw_seq ?_
  refine cw_region ?_
  refine rw_p 9 (.int .i64 56) (fun _ => by kernel_rfl) (fun _ => by kernel_rfl) ?_
  refine rw_nil ?_
  refine nw_then ?_
  refine cw_block ?_
  refine cw_loop (X := Value × List Int) (fun q => [(0, .slice a n c), (1, .int .u64 k), (5, u0), (8, q.1), (9, .int .i64 (56 - 8 * ((q.2.length : Nat) : Int)))]) (fun q v => OwnB v W0.heap.size q.1 ((b ++ [39]) ++ q.2) ∧ q.2.length ≤ 8 ∧ Byt q.2 ∧ Below W0.heap.size W0 v) (fun q => 8 - q.2.length) (v14, []) (by exact ⟨fun _ => by kernel_rfl, ⟨fun _ => by kernel_rfl, ⟨fun _ => by kernel_rfl, ⟨fun _ => by kernel_rfl, ⟨fun _ => by kernel_rfl, trivial⟩⟩⟩⟩⟩) ⟨by rw [List.append_nil]; exact ho17, by simp, (fun x hx => absurd hx List.not_mem_nil), hX⟩ ?_
  clear ho17 hX
  rintro ⟨u, L⟩ wl ⟨ho, hL8, hLb, hX⟩
  simp only at ho hL8 hLb
  show CW _ _ _ _ _ _ _ [(0, .slice a n c), (1, .int .u64 k), (5, u0), (8, u), (9, .int .i64 (56 - 8 * ((L.length : Nat) : Int)))] _
  by_cases hlt : L.length < 8
  · skip
    refine cw_seq ?_
    refine cw_seq ?_
    refine cw_region ?_
    refine rw_p 39 (.int .i64 (56 - 8 * ((L.length : Nat) : Int))) (fun _ => by kernel_rfl) (fun _ => by kernel_rfl) ?_
    refine rw_p 40 (.bool true) (fun _ => by kernel_rfl) (fun _ => ol_conv (v := .bool (decide ((56 - 8 * ((L.length : Nat) : Int) : Int) ≥ (0 : Int)))) (by kernel_rfl) (congrArg Value.bool (decide_eq_true (by omega)))) ?_
    refine rw_nil ?_
    refine nw_then ?_
    refine cw_cond_t (fun _ => by kernel_rfl) ?_
    refine cw_skip ?_
    refine nw_then ?_
    refine cw_seq ?_
    refine cw_block ?_
    refine cw_region ?_
    refine rw_p 43 (u) (fun _ => by kernel_rfl) (fun _ => by kernel_rfl) ?_
    refine rw_p 44 (.int .u64 k) (fun _ => by kernel_rfl) (fun _ => by kernel_rfl) ?_
    refine rw_p 45 (.int .i64 (56 - 8 * ((L.length : Nat) : Int))) (fun _ => by kernel_rfl) (fun _ => by kernel_rfl) ?_
    refine rw_p 46 (.int .u64 (k / 2 ^ (56 - 8 * ((L.length : Nat) : Int)).toNat)) (fun _ => by kernel_rfl) (fun _ => ol_shr 29 _ _ _ k (56 - 8 * ((L.length : Nat) : Int)) rfl (by kernel_rfl) (by kernel_rfl) (by omega) (by omega)) ?_
    obtain ⟨y, hy⟩ : ∃ y, IntKind.u8.wrap (k / 2 ^ (56 - 8 * ((L.length : Nat) : Int)).toNat) = y := ⟨_, rfl⟩
    have hyb := wrap8_bd (k / 2 ^ (56 - 8 * ((L.length : Nat) : Int)).toNat)
    rw [hy] at hyb
    refine rw_p 47 (.int .u8 y) (fun _ => by kernel_rfl) (fun _ => ol_cv 29 5 .u64 .u8 _ (k / 2 ^ (56 - 8 * ((L.length : Nat) : Int)).toNat) y rfl Tryd.underlying29 Tryd.underlying5 (by kernel_rfl) hy) ?_
    refine rw_newS 48 #[.int .u8 y] 5 1 (fun _ => by kernel_rfl) (fun _ => by kernel_rfl) ?_
    intro w19 g20 hn21
    replace ho := ho.go hn21.below
    replace hX := hX.trans ((hn21.below).mono hX.size)
    have ha22 : Ag w19 (some ⟨g20, 0, none⟩) 1 1 [y] := row_ag (show Row g20 w19 [y] from hn21.row) rfl (fun x hx => by simp at hx; omega) (by omega)
    obtain ⟨v23, w24, hr25, ho26, hb27⟩ := app_run ho ha22 (by simp; omega) hX.size
    refine rw_v 49 v23 (fun _ => by kernel_rfl) (fun _ => ol_app hr25 _ _ rfl (by kernel_rfl) (by kernel_rfl)) ?_
    replace hX := hX.trans hb27
    refine rw_p 8 (v23) (fun _ => by kernel_rfl) (fun _ => by kernel_rfl) ?_
    refine rw_nil ?_
    refine nw_block ?_
    refine nw_then ?_
    refine cw_region ?_
    refine rw_p 41 (.int .i64 (56 - 8 * ((L.length : Nat) : Int))) (fun _ => by kernel_rfl) (fun _ => by kernel_rfl) ?_
    refine rw_p 42 (.int .i64 (56 - 8 * (((L ++ [y]).length : Nat) : Int))) (fun _ => by kernel_rfl) (fun _ => ol_conv (v := .int .i64 (IntKind.i64.wrap ((56 - 8 * ((L.length : Nat) : Int)) - 8))) (by kernel_rfl) (congrArg (Value.int .i64) ((wrap64 (by omega) (by omega)).trans (by rw [List.length_append]; simp; omega)))) ?_
    refine rw_p 9 (.int .i64 (56 - 8 * (((L ++ [y]).length : Nat) : Int))) (fun _ => by kernel_rfl) (fun _ => by kernel_rfl) ?_
    refine rw_nil ?_
    refine nw_round (X := Value × List Int) (E := fun q => [(0, .slice a n c), (1, .int .u64 k), (5, u0), (8, q.1), (9, .int .i64 (56 - 8 * ((q.2.length : Nat) : Int)))]) (R := fun q v => OwnB v W0.heap.size q.1 ((b ++ [39]) ++ q.2) ∧ q.2.length ≤ 8 ∧ Byt q.2 ∧ Below W0.heap.size W0 v) (μ := fun q => 8 - q.2.length) (x := (u, L)) (v23, L ++ [y]) (by exact ⟨fun _ => by kernel_rfl, ⟨fun _ => by kernel_rfl, ⟨fun _ => by kernel_rfl, ⟨fun _ => by kernel_rfl, ⟨fun _ => by kernel_rfl, trivial⟩⟩⟩⟩⟩) ⟨by rw [← List.append_assoc]; exact ho26, by simp; omega, byt_app hLb (fun x hx => by simp at hx; omega), hX⟩ (by show 8 - (L ++ [y]).length < 8 - L.length; simp; omega)
  · skip
    have hL : L.length = 8 := by omega
    refine cw_seq ?_
    refine cw_seq ?_
    refine cw_region ?_
    refine rw_p 39 (.int .i64 (56 - 8 * ((L.length : Nat) : Int))) (fun _ => by kernel_rfl) (fun _ => by kernel_rfl) ?_
    refine rw_p 40 (.bool false) (fun _ => by kernel_rfl) (fun _ => ol_conv (v := .bool (decide ((56 - 8 * ((L.length : Nat) : Int) : Int) ≥ (0 : Int)))) (by kernel_rfl) (congrArg Value.bool (decide_eq_false (by omega)))) ?_
    refine rw_nil ?_
    refine nw_then ?_
    refine cw_cond_f (fun _ => by kernel_rfl) ?_
    refine cw_exit ?_
    refine nw_exit_then ?_
    refine nw_exit_then ?_
    refine nw_exit_here ?_
    refine nw_then ?_
    refine cw_seq ?_
    refine cw_region ?_
    refine rw_p 50 (u) (fun _ => by kernel_rfl) (fun _ => by kernel_rfl) ?_
    refine rw_newS 51 #[.int .u8 66] 5 1 (fun _ => by kernel_rfl) (fun _ => by kernel_rfl) ?_
    intro w28 g29 hn30
    replace ho := ho.go hn30.below
    replace hX := hX.trans ((hn30.below).mono hX.size)
    have ha31 : Ag w28 (some ⟨g29, 0, none⟩) 1 1 [66] := row_ag (show Row g29 w28 [66] from hn30.row) rfl (fun x hx => by simp at hx; omega) (by omega)
    obtain ⟨v32, w33, hr34, ho35, hb36⟩ := app_run ho ha31 (by simp; omega) hX.size
    refine rw_v 52 v32 (fun _ => by kernel_rfl) (fun _ => ol_app hr34 _ _ rfl (by kernel_rfl) (by kernel_rfl)) ?_
    replace hX := hX.trans hb36
    refine rw_p 8 (v32) (fun _ => by kernel_rfl) (fun _ => by kernel_rfl) ?_
    refine rw_nil ?_
    refine nw_then ?_
    refine cw_seq ?_
    have hmp := mk_push (b := b) (L := L) hcut hL
    rw [hms, hlb] at hmp
    have hby : Byt (((b ++ [39]) ++ L) ++ ([66])) := byt_app (byt_app (byt_app h.b (byt_lit (by decide))) hLb) (byt_lit (by decide))
    obtain ⟨xg, cg, rfl, hag⟩ := OwnB.ag ho35 hby
    replace hB := hB.go hX
    replace ht := ht.go hX
    replace h := h.go hX
    replace ho0 := ho0.go hX
    have hll : (((b ++ [39]) ++ L) ++ ([66])).length = n + 10 := by simp; omega
    refine cw_region ?_
    refine rw_call 53 6 #[] (fun _ => by kernel_rfl) (fun _ => by kernel_rfl) (R := RVl w33 (.bool true)) (walive w33 ht) ?_
    rintro _ w37 ⟨rfl, hb38⟩
    replace hB := hB.go hb38
    replace ht := ht.go hb38
    replace h := h.go hb38
    replace ho0 := ho0.go hb38
    replace hag := hag.go hb38
    refine rw_p 54 (.bool true) (fun _ => by kernel_rfl) (fun _ => by kernel_rfl) ?_
    refine rw_p 55 (.slice xg (((b ++ [39]) ++ L) ++ ([66])).length cg) (fun _ => by kernel_rfl) (fun _ => by kernel_rfl) ?_
    refine rw_call 56 8 #[.slice xg (((b ++ [39]) ++ L) ++ ([66])).length cg] (fun _ => by kernel_rfl) (fun _ => by kernel_rfl) (R := RIl w37 (ms ++ [n + 9])) (by have := wmarks w37 hag ht (by simp; omega); rw [hmp] at this; exact this) ?_
    rintro u39 w40 ⟨ho41, hb42⟩
    replace hB := hB.go hb42
    replace ht := ht.go hb42
    replace h := h.go hb42
    replace ho0 := ho0.go hb42
    replace hag := hag.go hb42
    have hiho41 : IsL w40 u39 (ms ++ [n + 9]) := ho41.isl
    refine rw_p 57 (u0) (fun _ => by kernel_rfl) (fun _ => by kernel_rfl) ?_
    have hB9 := hB
    have ht9 := ht
    have h9 := h
    have ho09 := ho0
    have hag9 := hag
    have hiho419 := hiho41
    have hz9 := hB.size
    obtain ⟨v43, w44, hr45, ho46, hb47⟩ := app_ints (own_nil 3 w40 w40.heap.size) ho0 (by simp; omega) (Nat.le_refl _)
    rw [List.nil_append] at ho46
    refine rw_v 58 v43 (fun _ => by kernel_rfl) (fun _ => ol_app1 hr45 _ _ rfl (by kernel_rfl) (by kernel_rfl)) ?_
    replace hB := hB.go hb47
    replace ht := ht.go hb47
    replace h := h.go hb47
    replace ho0 := ho0.go hb47
    replace hag := hag.go hb47
    replace hiho41 := hiho41.go hb47
    have hBZ := hB
    have htZ := ht
    have hZ := h
    have ho0Z := ho0
    have hagZ := hag
    have hiho41Z := hiho41
    have ho46Z := ho46
    refine rw_p 59 (.slice a n c) (fun _ => by kernel_rfl) (fun _ => by kernel_rfl) ?_
    refine rw_p 60 (.int .i64 ((n : Nat) : Int)) (fun _ => by kernel_rfl) (fun _ => by kernel_rfl) ?_
    refine rw_p 61 (.int .i64 ((n + 9 : Nat) : Int)) (fun _ => by kernel_rfl) (fun _ => ol_conv (v := .int .i64 (IntKind.i64.wrap (((n : Nat) : Int) + (9 : Int)))) (by kernel_rfl) (congrArg (Value.int .i64) (show IntKind.i64.wrap (((n : Nat) : Int) + (9 : Int)) = ((n + 9 : Nat) : Int) from (wrap64 (by omega) (by omega)).trans (by omega)))) ?_
    refine rw_newS 62 #[.int .i64 ((n + 9 : Nat) : Int)] 3 1 (fun _ => by kernel_rfl) (fun _ => by kernel_rfl) ?_
    intro w48 g49 hn50
    obtain ⟨v51, w52, hr53, ho54, hb55⟩ := app_one (t := 30) (e := 3) (bytes := 8) (z := .int .i64 0) Tryd.underlying30 (by kernel_rfl) rfl ho46 hn50 rfl (by rw [List.length_map]; omega) (by unfold maxLen; rw [List.length_map]; omega) hb47.size
    refine rw_v 63 v51 (fun _ => by kernel_rfl) (fun _ => ol_app1 hr53 _ _ rfl (by kernel_rfl) (by kernel_rfl)) ?_
    have hbz := Below.trans (Below.trans hb47 (hn50.below.mono hb47.size)) hb55
    replace hB := hB9.go hbz
    replace ht := ht9.go hbz
    replace h := h9.go hbz
    replace ho0 := ho09.go hbz
    replace hag := hag9.go hbz
    replace hiho41 := hiho419.go hbz
    have hil2 : IsL w52 v51 (ms ++ [n + 9]) := Own.isl (by rw [List.map_append]; exact ho54)
    refine rw_call 64 11 #[u39, v51] (fun _ => by kernel_rfl) (fun _ => by kernel_rfl) (R := RVl w52 (.bool true)) (wplaces hiho41 hil2 (by simp; omega)) ?_
    rintro _ w56 ⟨rfl, hb57⟩
    replace hB := hB.go hb57
    replace ht := ht.go hb57
    replace h := h.go hb57
    replace ho0 := ho0.go hb57
    replace hag := hag.go hb57
    replace hiho41 := hiho41.go hb57
    refine rw_p 65 (.bool true) (fun _ => by kernel_rfl) (fun _ => by kernel_rfl) ?_
    refine rw_p 4 (.bool true) (fun _ => by kernel_rfl) (fun _ => by kernel_rfl) ?_
    refine rw_nil ?_
    refine nw_then ?_
    refine cw_ret ?_
    refine nw_ret_body (.bool true) (fun _ => by kernel_rfl) ?_
    exact ⟨rfl, hB⟩
set_option maxHeartbeats 4000000 in
theorem pieces_ok {a : Option Addr} {n c : Nat} {b : List Int} {k : Int} (w : World) (ht : Tb w) (h : Ag w a n c b) (hn : n ≤ 1048576) (hk : 0 ≤ k ∧ k < 18446744073709551616) (hn2 : n ≤ 246) (hne : 0 < n) (hcut : ctF b = false) : Calls Tryd.prog 4 #[.slice a n c, .int .u64 k] w (Law14 w) := by
  have ht0 := ht
  have hB : Bl w w := Bl.refl w
  refine cw_enter Tryd.func4 rfl 66 rfl ?_
  show CW _ _ _ _ _ _ _ [(0, .slice a n c), (1, .int .u64 k)] _
  have hlb := h.l
  obtain ⟨ms, hms⟩ : ∃ ms, mkF 0 b = ms := ⟨_, rfl⟩
  have hml : ms.length ≤ n := by rw [← hms, ← hlb]; exact mk_len b
  obtain ⟨hbT, hlT, hT3⟩ := pr_byt h.b
  have hT4 := pr_ne2 h.b
  obtain ⟨T, er, hpr⟩ : ∃ T er, prP b = (T, er) := ⟨_, _, rfl⟩
  rw [hpr] at hbT hlT hT3 hT4
  simp only at hbT hlT hT3 hT4
  obtain rfl : er = 0 := hT3.2 (by omega)
  have hTp : 0 < T.length := hT4 (fun e => by rw [e] at hlb; simp at hlb; omega) (by omega)
  refine cw_seq ?_
  refine cw_region ?_
  refine rw_p 4 (.bool false) (fun _ => by kernel_rfl) (fun _ => by kernel_rfl) ?_
  refine rw_nil ?_
  refine nw_then ?_
  refine cw_seq ?_
  refine cw_region ?_
  refine rw_p 10 (.slice a n c) (fun _ => by kernel_rfl) (fun _ => by kernel_rfl) ?_
  refine rw_call 11 8 #[.slice a n c] (fun _ => by kernel_rfl) (fun _ => by kernel_rfl) (R := RIl w ms) (by have := wmarks w h ht hn; rw [hms] at this; exact this) ?_
  rintro u0 w1 ⟨ho0, hb2⟩
  replace hB := hB.go hb2
  replace ht := ht.go hb2
  replace h := h.go hb2
  refine rw_p 5 (u0) (fun _ => by kernel_rfl) (fun _ => by kernel_rfl) ?_
  refine rw_nil ?_
  refine nw_then ?_
  refine cw_seq ?_
  refine cw_region ?_
  refine rw_p 13 (.slice a n c) (fun _ => by kernel_rfl) (fun _ => by kernel_rfl) ?_
  refine rw_call 14 9 #[.slice a n c] (fun _ => by kernel_rfl) (fun _ => by kernel_rfl) (R := RVl w1 (.tuple #[.string (strOfNums T), .int .i64 0])) (by have := wprt w1 h ht; rw [hpr] at this; exact this) ?_
  rintro _ w3 ⟨rfl, hb4⟩
  replace hB := hB.go hb4
  replace ht := ht.go hb4
  replace h := h.go hb4
  replace ho0 := ho0.go hb4
  refine rw_p 12 (.tuple #[.string (strOfNums T), .int .i64 0]) (fun _ => by kernel_rfl) (fun _ => by kernel_rfl) ?_
  refine rw_p 15 (.string (strOfNums T)) (fun _ => by kernel_rfl) (fun _ => by kernel_rfl) ?_
  refine rw_p 16 (.int .i64 0) (fun _ => by kernel_rfl) (fun _ => by kernel_rfl) ?_
  refine rw_p 6 (.string (strOfNums T)) (fun _ => by kernel_rfl) (fun _ => by kernel_rfl) ?_
  refine rw_p 7 (.int .i64 0) (fun _ => by kernel_rfl) (fun _ => by kernel_rfl) ?_
  refine rw_nil ?_
  refine nw_then ?_
  refine cw_seq ?_
  refine cw_seq ?_
  refine cw_region ?_
  refine rw_p 17 (.int .i64 0) (fun _ => by kernel_rfl) (fun _ => by kernel_rfl) ?_
  refine rw_p 18 (.bool false) (fun _ => by kernel_rfl) (fun _ => by kernel_rfl) ?_
  refine rw_p 19 (.bool false) (fun _ => by kernel_rfl) (fun _ => by kernel_rfl) ?_
  refine rw_p 20 (.slice a n c) (fun _ => by kernel_rfl) (fun _ => by kernel_rfl) ?_
  refine rw_p 21 (.int .i64 ((n : Nat) : Int)) (fun _ => by kernel_rfl) (fun _ => by kernel_rfl) ?_
  refine rw_p 22 (.bool false) (fun _ => by kernel_rfl) (fun _ => ol_conv (v := .bool (decide (((n : Nat) : Int) > (246 : Int)))) (by kernel_rfl) (congrArg Value.bool (decide_eq_false (by omega)))) ?_
  refine rw_p 23 (.bool false) (fun _ => by kernel_rfl) (fun _ => by kernel_rfl) ?_
  refine rw_p 24 (.bool false) (fun _ => by kernel_rfl) (fun _ => by kernel_rfl) ?_
  refine rw_p 25 (.string (strOfNums T)) (fun _ => by kernel_rfl) (fun _ => by kernel_rfl) ?_
  refine rw_p 26 (.int .i64 ((T.length : Nat) : Int)) (fun _ => by kernel_rfl) (fun _ => ol_len9 _ T rfl Tryd.underlying9 (by kernel_rfl)) ?_
  refine rw_p 27 (.bool true) (fun _ => by kernel_rfl) (fun _ => ol_conv (v := .bool (decide (((T.length : Nat) : Int) > (0 : Int)))) (by kernel_rfl) (congrArg Value.bool (decide_eq_true (by omega)))) ?_
  refine rw_p 28 (.bool true) (fun _ => by kernel_rfl) (fun _ => by kernel_rfl) ?_
  refine rw_p 29 (.slice a n c) (fun _ => by kernel_rfl) (fun _ => by kernel_rfl) ?_
  refine rw_call 30 10 #[.slice a n c] (fun _ => by kernel_rfl) (fun _ => by kernel_rfl) (R := RVl w3 (.bool false)) (by have := wcut w3 h hn; rw [hcut] at this; exact this) ?_
  rintro _ w5 ⟨rfl, hb6⟩
  replace hB := hB.go hb6
  replace ht := ht.go hb6
  replace h := h.go hb6
  replace ho0 := ho0.go hb6
  refine rw_p 31 (.bool false) (fun _ => by kernel_rfl) (fun _ => by kernel_rfl) ?_
  refine rw_p 32 (.bool false) (fun _ => by kernel_rfl) (fun _ => by kernel_rfl) ?_
  refine rw_nil ?_
  refine nw_then ?_
  refine cw_cond_f (fun _ => by kernel_rfl) ?_
  refine cw_skip ?_
  refine nw_then ?_
  refine cw_seq ?_
  refine cw_region ?_
  refine rw_p 34 (.slice a n c) (fun _ => by kernel_rfl) (fun _ => by kernel_rfl) ?_
  obtain ⟨W0, hW0⟩ : ∃ W9, W9 = w5 := ⟨_, rfl⟩
  rw [← hW0]
  rw [← hW0] at hB
  rw [← hW0] at ht
  rw [← hW0] at h
  rw [← hW0] at ho0
  obtain ⟨v7, w8, hr9, ho10, hb11⟩ := app_run (ownB_nil W0 W0.heap.size) h (by simp; omega) (Nat.le_refl _)
  rw [List.nil_append] at ho10
  refine rw_v 35 v7 (fun _ => by kernel_rfl) (fun _ => ol_app hr9 _ _ rfl (by kernel_rfl) (by kernel_rfl)) ?_
  have hX := hb11
  refine rw_p 8 (v7) (fun _ => by kernel_rfl) (fun _ => by kernel_rfl) ?_
  refine rw_nil ?_
  refine nw_then ?_
  refine cw_seq ?_
  refine cw_region ?_
  refine rw_p 36 (v7) (fun _ => by kernel_rfl) (fun _ => by kernel_rfl) ?_
  refine rw_newS 37 #[.int .u8 39] 5 1 (fun _ => by kernel_rfl) (fun _ => by kernel_rfl) ?_
  intro w12 g13 hn14
  replace ho10 := ho10.go hn14.below
  replace hX := hX.trans ((hn14.below).mono hX.size)
  have ha15 : Ag w12 (some ⟨g13, 0, none⟩) 1 1 [39] := row_ag (show Row g13 w12 [39] from hn14.row) rfl (fun x hx => by simp at hx; omega) (by omega)
  obtain ⟨v16, w17, hr18, ho19, hb20⟩ := app_run ho10 ha15 (by simp; omega) hX.size
  refine rw_v 38 v16 (fun _ => by kernel_rfl) (fun _ => ol_app hr18 _ _ rfl (by kernel_rfl) (by kernel_rfl)) ?_
  replace hX := hX.trans hb20
  refine rw_p 8 (v16) (fun _ => by kernel_rfl) (fun _ => by kernel_rfl) ?_
  refine rw_nil ?_
  refine nw_then ?_
  refine cw_seq ?_
  refine cw_seq ?_
  refine cw_region ?_
  refine rw_p 9 (.int .i64 56) (fun _ => by kernel_rfl) (fun _ => by kernel_rfl) ?_
  refine rw_nil ?_
  refine nw_then ?_
  refine cw_block ?_
  refine cw_loop (X := Value × List Int) (fun q => [(0, .slice a n c), (1, .int .u64 k), (5, u0), (8, q.1), (9, .int .i64 (56 - 8 * ((q.2.length : Nat) : Int)))]) (fun q v => OwnB v W0.heap.size q.1 ((b ++ [39]) ++ q.2) ∧ q.2.length ≤ 8 ∧ Byt q.2 ∧ Below W0.heap.size W0 v) (fun q => 8 - q.2.length) (v16, []) (by exact ⟨fun _ => by kernel_rfl, ⟨fun _ => by kernel_rfl, ⟨fun _ => by kernel_rfl, ⟨fun _ => by kernel_rfl, ⟨fun _ => by kernel_rfl, trivial⟩⟩⟩⟩⟩) ⟨by rw [List.append_nil]; exact ho19, by simp, (fun x hx => absurd hx List.not_mem_nil), hX⟩ ?_
  clear ho19 hX
  rintro ⟨u, L⟩ wl ⟨ho, hL8, hLb, hX⟩
  simp only at ho hL8 hLb
  show CW _ _ _ _ _ _ _ [(0, .slice a n c), (1, .int .u64 k), (5, u0), (8, u), (9, .int .i64 (56 - 8 * ((L.length : Nat) : Int)))] _
  by_cases hlt : L.length < 8
  · skip
    refine cw_seq ?_
    refine cw_seq ?_
    refine cw_region ?_
    refine rw_p 39 (.int .i64 (56 - 8 * ((L.length : Nat) : Int))) (fun _ => by kernel_rfl) (fun _ => by kernel_rfl) ?_
    refine rw_p 40 (.bool true) (fun _ => by kernel_rfl) (fun _ => ol_conv (v := .bool (decide ((56 - 8 * ((L.length : Nat) : Int) : Int) ≥ (0 : Int)))) (by kernel_rfl) (congrArg Value.bool (decide_eq_true (by omega)))) ?_
    refine rw_nil ?_
    refine nw_then ?_
    refine cw_cond_t (fun _ => by kernel_rfl) ?_
    refine cw_skip ?_
    refine nw_then ?_
    refine cw_seq ?_
    refine cw_block ?_
    refine cw_region ?_
    refine rw_p 43 (u) (fun _ => by kernel_rfl) (fun _ => by kernel_rfl) ?_
    refine rw_p 44 (.int .u64 k) (fun _ => by kernel_rfl) (fun _ => by kernel_rfl) ?_
    refine rw_p 45 (.int .i64 (56 - 8 * ((L.length : Nat) : Int))) (fun _ => by kernel_rfl) (fun _ => by kernel_rfl) ?_
    refine rw_p 46 (.int .u64 (k / 2 ^ (56 - 8 * ((L.length : Nat) : Int)).toNat)) (fun _ => by kernel_rfl) (fun _ => ol_shr 29 _ _ _ k (56 - 8 * ((L.length : Nat) : Int)) rfl (by kernel_rfl) (by kernel_rfl) (by omega) (by omega)) ?_
    obtain ⟨y, hy⟩ : ∃ y, IntKind.u8.wrap (k / 2 ^ (56 - 8 * ((L.length : Nat) : Int)).toNat) = y := ⟨_, rfl⟩
    have hyb := wrap8_bd (k / 2 ^ (56 - 8 * ((L.length : Nat) : Int)).toNat)
    rw [hy] at hyb
    refine rw_p 47 (.int .u8 y) (fun _ => by kernel_rfl) (fun _ => ol_cv 29 5 .u64 .u8 _ (k / 2 ^ (56 - 8 * ((L.length : Nat) : Int)).toNat) y rfl Tryd.underlying29 Tryd.underlying5 (by kernel_rfl) hy) ?_
    refine rw_newS 48 #[.int .u8 y] 5 1 (fun _ => by kernel_rfl) (fun _ => by kernel_rfl) ?_
    intro w21 g22 hn23
    replace ho := ho.go hn23.below
    replace hX := hX.trans ((hn23.below).mono hX.size)
    have ha24 : Ag w21 (some ⟨g22, 0, none⟩) 1 1 [y] := row_ag (show Row g22 w21 [y] from hn23.row) rfl (fun x hx => by simp at hx; omega) (by omega)
    obtain ⟨v25, w26, hr27, ho28, hb29⟩ := app_run ho ha24 (by simp; omega) hX.size
    refine rw_v 49 v25 (fun _ => by kernel_rfl) (fun _ => ol_app hr27 _ _ rfl (by kernel_rfl) (by kernel_rfl)) ?_
    replace hX := hX.trans hb29
    refine rw_p 8 (v25) (fun _ => by kernel_rfl) (fun _ => by kernel_rfl) ?_
    refine rw_nil ?_
    refine nw_block ?_
    refine nw_then ?_
    refine cw_region ?_
    refine rw_p 41 (.int .i64 (56 - 8 * ((L.length : Nat) : Int))) (fun _ => by kernel_rfl) (fun _ => by kernel_rfl) ?_
    refine rw_p 42 (.int .i64 (56 - 8 * (((L ++ [y]).length : Nat) : Int))) (fun _ => by kernel_rfl) (fun _ => ol_conv (v := .int .i64 (IntKind.i64.wrap ((56 - 8 * ((L.length : Nat) : Int)) - 8))) (by kernel_rfl) (congrArg (Value.int .i64) ((wrap64 (by omega) (by omega)).trans (by rw [List.length_append]; simp; omega)))) ?_
    refine rw_p 9 (.int .i64 (56 - 8 * (((L ++ [y]).length : Nat) : Int))) (fun _ => by kernel_rfl) (fun _ => by kernel_rfl) ?_
    refine rw_nil ?_
    refine nw_round (X := Value × List Int) (E := fun q => [(0, .slice a n c), (1, .int .u64 k), (5, u0), (8, q.1), (9, .int .i64 (56 - 8 * ((q.2.length : Nat) : Int)))]) (R := fun q v => OwnB v W0.heap.size q.1 ((b ++ [39]) ++ q.2) ∧ q.2.length ≤ 8 ∧ Byt q.2 ∧ Below W0.heap.size W0 v) (μ := fun q => 8 - q.2.length) (x := (u, L)) (v25, L ++ [y]) (by exact ⟨fun _ => by kernel_rfl, ⟨fun _ => by kernel_rfl, ⟨fun _ => by kernel_rfl, ⟨fun _ => by kernel_rfl, ⟨fun _ => by kernel_rfl, trivial⟩⟩⟩⟩⟩) ⟨by rw [← List.append_assoc]; exact ho28, by simp; omega, byt_app hLb (fun x hx => by simp at hx; omega), hX⟩ (by show 8 - (L ++ [y]).length < 8 - L.length; simp; omega)
  · skip
    have hL : L.length = 8 := by omega
    refine cw_seq ?_
    refine cw_seq ?_
    refine cw_region ?_
    refine rw_p 39 (.int .i64 (56 - 8 * ((L.length : Nat) : Int))) (fun _ => by kernel_rfl) (fun _ => by kernel_rfl) ?_
    refine rw_p 40 (.bool false) (fun _ => by kernel_rfl) (fun _ => ol_conv (v := .bool (decide ((56 - 8 * ((L.length : Nat) : Int) : Int) ≥ (0 : Int)))) (by kernel_rfl) (congrArg Value.bool (decide_eq_false (by omega)))) ?_
    refine rw_nil ?_
    refine nw_then ?_
    refine cw_cond_f (fun _ => by kernel_rfl) ?_
    refine cw_exit ?_
    refine nw_exit_then ?_
    refine nw_exit_then ?_
    refine nw_exit_here ?_
    refine nw_then ?_
    refine cw_seq ?_
    refine cw_region ?_
    refine rw_p 50 (u) (fun _ => by kernel_rfl) (fun _ => by kernel_rfl) ?_
    refine rw_newS 51 #[.int .u8 66] 5 1 (fun _ => by kernel_rfl) (fun _ => by kernel_rfl) ?_
    intro w30 g31 hn32
    replace ho := ho.go hn32.below
    replace hX := hX.trans ((hn32.below).mono hX.size)
    have ha33 : Ag w30 (some ⟨g31, 0, none⟩) 1 1 [66] := row_ag (show Row g31 w30 [66] from hn32.row) rfl (fun x hx => by simp at hx; omega) (by omega)
    obtain ⟨v34, w35, hr36, ho37, hb38⟩ := app_run ho ha33 (by simp; omega) hX.size
    refine rw_v 52 v34 (fun _ => by kernel_rfl) (fun _ => ol_app hr36 _ _ rfl (by kernel_rfl) (by kernel_rfl)) ?_
    replace hX := hX.trans hb38
    refine rw_p 8 (v34) (fun _ => by kernel_rfl) (fun _ => by kernel_rfl) ?_
    refine rw_nil ?_
    refine nw_then ?_
    refine cw_seq ?_
    have hmp := mk_push (b := b) (L := L) hcut hL
    rw [hms, hlb] at hmp
    have hby : Byt (((b ++ [39]) ++ L) ++ ([66])) := byt_app (byt_app (byt_app h.b (byt_lit (by decide))) hLb) (byt_lit (by decide))
    obtain ⟨xg, cg, rfl, hag⟩ := OwnB.ag ho37 hby
    replace hB := hB.go hX
    replace ht := ht.go hX
    replace h := h.go hX
    replace ho0 := ho0.go hX
    have hll : (((b ++ [39]) ++ L) ++ ([66])).length = n + 10 := by simp; omega
    refine cw_region ?_
    refine rw_call 53 6 #[] (fun _ => by kernel_rfl) (fun _ => by kernel_rfl) (R := RVl w35 (.bool true)) (walive w35 ht) ?_
    rintro _ w39 ⟨rfl, hb40⟩
    replace hB := hB.go hb40
    replace ht := ht.go hb40
    replace h := h.go hb40
    replace ho0 := ho0.go hb40
    replace hag := hag.go hb40
    refine rw_p 54 (.bool true) (fun _ => by kernel_rfl) (fun _ => by kernel_rfl) ?_
    refine rw_p 55 (.slice xg (((b ++ [39]) ++ L) ++ ([66])).length cg) (fun _ => by kernel_rfl) (fun _ => by kernel_rfl) ?_
    refine rw_call 56 8 #[.slice xg (((b ++ [39]) ++ L) ++ ([66])).length cg] (fun _ => by kernel_rfl) (fun _ => by kernel_rfl) (R := RIl w39 (ms ++ [n + 9])) (by have := wmarks w39 hag ht (by simp; omega); rw [hmp] at this; exact this) ?_
    rintro u41 w42 ⟨ho43, hb44⟩
    replace hB := hB.go hb44
    replace ht := ht.go hb44
    replace h := h.go hb44
    replace ho0 := ho0.go hb44
    replace hag := hag.go hb44
    have hiho43 : IsL w42 u41 (ms ++ [n + 9]) := ho43.isl
    refine rw_p 57 (u0) (fun _ => by kernel_rfl) (fun _ => by kernel_rfl) ?_
    have hB9 := hB
    have ht9 := ht
    have h9 := h
    have ho09 := ho0
    have hag9 := hag
    have hiho439 := hiho43
    have hz9 := hB.size
    obtain ⟨v45, w46, hr47, ho48, hb49⟩ := app_ints (own_nil 3 w42 w42.heap.size) ho0 (by simp; omega) (Nat.le_refl _)
    rw [List.nil_append] at ho48
    refine rw_v 58 v45 (fun _ => by kernel_rfl) (fun _ => ol_app1 hr47 _ _ rfl (by kernel_rfl) (by kernel_rfl)) ?_
    replace hB := hB.go hb49
    replace ht := ht.go hb49
    replace h := h.go hb49
    replace ho0 := ho0.go hb49
    replace hag := hag.go hb49
    replace hiho43 := hiho43.go hb49
    have hBZ := hB
    have htZ := ht
    have hZ := h
    have ho0Z := ho0
    have hagZ := hag
    have hiho43Z := hiho43
    have ho48Z := ho48
    refine rw_p 59 (.slice a n c) (fun _ => by kernel_rfl) (fun _ => by kernel_rfl) ?_
    refine rw_p 60 (.int .i64 ((n : Nat) : Int)) (fun _ => by kernel_rfl) (fun _ => by kernel_rfl) ?_
    refine rw_p 61 (.int .i64 ((n + 9 : Nat) : Int)) (fun _ => by kernel_rfl) (fun _ => ol_conv (v := .int .i64 (IntKind.i64.wrap (((n : Nat) : Int) + (9 : Int)))) (by kernel_rfl) (congrArg (Value.int .i64) (show IntKind.i64.wrap (((n : Nat) : Int) + (9 : Int)) = ((n + 9 : Nat) : Int) from (wrap64 (by omega) (by omega)).trans (by omega)))) ?_
    refine rw_newS 62 #[.int .i64 ((n + 9 : Nat) : Int)] 3 1 (fun _ => by kernel_rfl) (fun _ => by kernel_rfl) ?_
    intro w50 g51 hn52
    obtain ⟨v53, w54, hr55, ho56, hb57⟩ := app_one (t := 30) (e := 3) (bytes := 8) (z := .int .i64 0) Tryd.underlying30 (by kernel_rfl) rfl ho48 hn52 rfl (by rw [List.length_map]; omega) (by unfold maxLen; rw [List.length_map]; omega) hb49.size
    refine rw_v 63 v53 (fun _ => by kernel_rfl) (fun _ => ol_app1 hr55 _ _ rfl (by kernel_rfl) (by kernel_rfl)) ?_
    have hbz := Below.trans (Below.trans hb49 (hn52.below.mono hb49.size)) hb57
    replace hB := hB9.go hbz
    replace ht := ht9.go hbz
    replace h := h9.go hbz
    replace ho0 := ho09.go hbz
    replace hag := hag9.go hbz
    replace hiho43 := hiho439.go hbz
    have hil2 : IsL w54 v53 (ms ++ [n + 9]) := Own.isl (by rw [List.map_append]; exact ho56)
    refine rw_call 64 11 #[u41, v53] (fun _ => by kernel_rfl) (fun _ => by kernel_rfl) (R := RVl w54 (.bool true)) (wplaces hiho43 hil2 (by simp; omega)) ?_
    rintro _ w58 ⟨rfl, hb59⟩
    replace hB := hB.go hb59
    replace ht := ht.go hb59
    replace h := h.go hb59
    replace ho0 := ho0.go hb59
    replace hag := hag.go hb59
    replace hiho43 := hiho43.go hb59
    refine rw_p 65 (.bool true) (fun _ => by kernel_rfl) (fun _ => by kernel_rfl) ?_
    refine rw_p 4 (.bool true) (fun _ => by kernel_rfl) (fun _ => by kernel_rfl) ?_
    refine rw_nil ?_
    refine nw_then ?_
    refine cw_ret ?_
    refine nw_ret_body (.bool true) (fun _ => by kernel_rfl) ?_
    exact ⟨rfl, hB⟩
theorem pieces_any {a : Option Addr} {n c : Nat} {b : List Int} (w : World) (ht : Tb w) (h : Ag w a n c b) (hn : n ≤ 1048576) {k : Int} (hk : 0 ≤ k ∧ k < 18446744073709551616) : Calls Tryd.prog 4 #[.slice a n c, .int .u64 k] w (Law14 w) := by
  by_cases h1 : 256 < n
  · exact pieces_long w ht h hn hk h1
  · by_cases h2 : 246 < n
    · exact pieces_most w ht h hn hk h1 h2
    · cases hcut : ctF b with
      | true =>
        by_cases h3 : 0 < n
        · exact pieces_cut w ht h hn hk (by omega) h3 hcut
        · have hb0 : b = [] := List.eq_nil_of_length_eq_zero (by rw [h.l]; omega)
          rw [hb0] at hcut
          cases hcut
      | false =>
        by_cases h3 : 0 < n
        · exact pieces_ok w ht h hn hk (by omega) h3 hcut
        · exact pieces_none w ht h hn hk (by omega) hcut
end Go.Proofs.YtbjjboicfghldabDoor

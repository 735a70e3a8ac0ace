/- What the document's statement answers. -/
import Derived.Test.YtbjjboicfghldaaDoorG34
import Derived.Test.YtbjjboicfghldaaDoorG35
namespace Go.Proofs.YtbjjboicfghldaaDoor
open Go.RowKit
open Wo
set_option linter.unusedVariables false
set_option maxRecDepth 100000
set_option maxHeartbeats 8000000 in
theorem rstmt {g : Nat} {l W : List Int} {i t : Nat} (w : World) (hr : Rw g w (rdC l i t) 57) (hbW : Byt W) (hb : Byt l) (ht : t ≤ l.length) (hl : l.length ≤ 9223372036854775000) : Calls Tryd.prog 27 #[.pointer (some ⟨g, 0, none⟩), .string (strOfNums W)] w fun e w' => ∃ v, e = .returned v ∧ RSu g w l (stP W (l.drop t) t i) v w' := by
  have hglt := hr.lt
  obtain ⟨rest, hrest⟩ : ∃ rest, l.drop t = rest := ⟨_, rfl⟩
  have hbr : Byt rest := by rw [← hrest]; exact byt_drop hb _
  have hnl := nxW_len rest
  have hrl : rest.length = l.length - t := by rw [← hrest, List.length_drop]
  obtain ⟨m, ok, hps⟩ : ∃ m ok, ps (nxW rest) = (m, ok) := ⟨_, _, rfl⟩
  have hm : m < W64 := by have := ps_lt (nxW rest); rw [hps] at this; exact this
  have hm2 := hm
  unfold W64 at hm2
  have hso := szo_bd hm
  have hT : Touch g w w := Touch.refl _ _
  refine cw_enter Tryd.func27 rfl 107 rfl ?_
  show CW _ _ _ _ _ _ _ [(0, .pointer (some ⟨g, 0, none⟩)), (1, .string (strOfNums W))] _
  refine cw_seq ?_
  refine cw_region ?_
  refine rw_p 4 (.slice none 0 0) (fun _ => by kernel_rfl) (fun _ => by kernel_rfl) ?_
  refine rw_p 5 (.int .i64 0) (fun _ => by kernel_rfl) (fun _ => by kernel_rfl) ?_
  refine rw_nil ?_
  refine nw_then ?_
  refine cw_seq ?_
  refine cw_seq ?_
  refine cw_region ?_
  refine rw_p 6 (.int .i64 0) (fun _ => by kernel_rfl) (fun _ => by kernel_rfl) ?_
  refine rw_nil ?_
  refine nw_then ?_
  refine cw_block ?_
  refine cw_loop (X := Nat) (fun q => [(0, .pointer (some ⟨g, 0, none⟩)), (1, .string (strOfNums W)), (6, .int .i64 ((q : Nat) : Int))]) (fun q v => q ≤ 256 ∧ (∀ x, x < q → ¬ Mt W x) ∧ Rw g v (rdC l i t) 57 ∧ Touch g w v) (fun q => 256 - q) 0 (by exact ⟨fun _ => by kernel_rfl, ⟨fun _ => by kernel_rfl, ⟨fun _ => by kernel_rfl, trivial⟩⟩⟩) ⟨by omega, fun x hx => by omega, hr, hT⟩ ?_
  clear hr hT
  rintro n wl ⟨hn, hno, hr, hT⟩
  by_cases hlt : n < 256
  · skip
    cases hof : ofP ((n : Nat) : Int) with
    | none =>
      refine cw_seq ?_
      refine cw_seq ?_
      refine cw_region ?_
      refine rw_p 15 (.int .i64 ((n : Nat) : Int)) (fun _ => by kernel_rfl) (fun _ => by kernel_rfl) ?_
      refine rw_p 16 (.bool true) (fun _ => by kernel_rfl) (fun _ => ol_conv (v := .bool (decide (((n : Nat) : Int) < (256 : Int)))) (by kernel_rfl) (congrArg Value.bool (decide_eq_true (by omega)))) ?_
      refine rw_nil ?_
      refine nw_then ?_
      refine cw_cond_t (fun _ => by kernel_rfl) ?_
      refine cw_skip ?_
      refine nw_then ?_
      refine cw_seq ?_
      refine cw_block ?_
      refine cw_seq ?_
      refine cw_region ?_
      refine rw_p 20 (.int .i64 ((n : Nat) : Int)) (fun _ => by kernel_rfl) (fun _ => by kernel_rfl) ?_
      refine rw_p 21 (.int .u8 ((n : Nat) : Int)) (fun _ => by kernel_rfl) (fun _ => ol_cv 3 5 .i64 .u8 _ ((n : Nat) : Int) ((n : Nat) : Int) rfl Tryd.underlying3 Tryd.underlying5 (by kernel_rfl) (wrapI (by left; exact ⟨rfl, by omega, by omega⟩))) ?_
      refine rw_call 22 10 #[.int .u8 ((n : Nat) : Int)] (fun _ => by kernel_rfl) (fun _ => by kernel_rfl) (R := RVl wl (.tuple #[.agg (NfV nf0), .bool false])) (rof_no hof ⟨by omega, by omega⟩ wl) ?_
      rintro _ w1 ⟨rfl, hb2⟩
      replace hT := hT.trans (Touch.of_below hb2)
      replace hr := hr.go hb2
      refine rw_p 19 (.tuple #[.agg (NfV nf0), .bool false]) (fun _ => by kernel_rfl) (fun _ => by kernel_rfl) ?_
      refine rw_p 23 (.agg (NfV nf0)) (fun _ => by kernel_rfl) (fun _ => by kernel_rfl) ?_
      refine rw_p 24 (.bool false) (fun _ => by kernel_rfl) (fun _ => by kernel_rfl) ?_
      refine rw_new 7 (#[.string (strOfNums []), .int .i64 0, .int .i64 0, .int .i64 0, .int .u64 0]) 27 (fun _ => by kernel_rfl) (fun _ => by kernel_rfl) ?_
      intro w3 g4 hn5
      have hlgg4 : g < g4 := by have := hr.lt; have := hn5.hg; omega
      have hr6 : Rw g4 w3 (#[.string (strOfNums []), .int .i64 0, .int .i64 0, .int .i64 0, .int .u64 0]) 27 := hn5.row
      refine rw_put g4 (NfV nf0) (fun _ => by kernel_rfl) (fun _ => ol_store 27 _ _ _ _ _ 27 rfl (by kernel_rfl) (by kernel_rfl) hr6 (by kernel_rfl) rfl (by kernel_rfl)) ?_
      intro w7 hp8
      have hbg4 : Below w1.heap.size w1 w7 := hp8.below hn5.below (Nat.le_of_eq hn5.hg.symm) (by have := hn5.size; have := hn5.hg; omega)
      replace hT := hT.trans (Touch.of_below hbg4)
      replace hr := hr.go hbg4
      have hr9 : Rw g4 w7 (NfV nf0) 27 := hr6.put hp8
      refine rw_p 8 (.bool false) (fun _ => by kernel_rfl) (fun _ => by kernel_rfl) ?_
      refine rw_nil ?_
      refine nw_then ?_
      refine cw_seq ?_
      refine cw_region ?_
      refine rw_p 25 (.bool false) (fun _ => by kernel_rfl) (fun _ => by kernel_rfl) ?_
      refine rw_p 26 (.bool false) (fun _ => by kernel_rfl) (fun _ => by kernel_rfl) ?_
      refine rw_off 27 (fun _ => by kernel_rfl) ?_
      refine rw_off 28 (fun _ => by kernel_rfl) ?_
      refine rw_off 29 (fun _ => by kernel_rfl) ?_
      refine rw_off 30 (fun _ => by kernel_rfl) ?_
      refine rw_p 31 (.bool false) (fun _ => by kernel_rfl) (fun _ => by kernel_rfl) ?_
      refine rw_p 32 (.bool false) (fun _ => by kernel_rfl) (fun _ => by kernel_rfl) ?_
      refine rw_off 33 (fun _ => by kernel_rfl) ?_
      refine rw_off 34 (fun _ => by kernel_rfl) ?_
      refine rw_off 35 (fun _ => by kernel_rfl) ?_
      refine rw_p 36 (.bool false) (fun _ => by kernel_rfl) (fun _ => by kernel_rfl) ?_
      refine rw_nil ?_
      refine nw_then ?_
      refine cw_cond_f (fun _ => by kernel_rfl) ?_
      refine cw_skip ?_
      refine nw_block ?_
      refine nw_then ?_
      refine cw_region ?_
      refine rw_p 17 (.int .i64 ((n : Nat) : Int)) (fun _ => by kernel_rfl) (fun _ => by kernel_rfl) ?_
      refine rw_p 18 (.int .i64 ((n + 1 : Nat) : Int)) (fun _ => by kernel_rfl) (fun _ => ol_conv (v := .int .i64 (IntKind.i64.wrap (((n : Nat) : Int) + (1 : Int)))) (by kernel_rfl) (congrArg (Value.int .i64) (show IntKind.i64.wrap (((n : Nat) : Int) + (1 : Int)) = ((n + 1 : Nat) : Int) from (wrap64 (by omega) (by omega)).trans (by omega)))) ?_
      refine rw_p 6 (.int .i64 ((n + 1 : Nat) : Int)) (fun _ => by kernel_rfl) (fun _ => by kernel_rfl) ?_
      refine rw_nil ?_
      refine nw_round (X := Nat) (E := fun q => [(0, .pointer (some ⟨g, 0, none⟩)), (1, .string (strOfNums W)), (6, .int .i64 ((q : Nat) : Int))]) (R := fun q v => q ≤ 256 ∧ (∀ x, x < q → ¬ Mt W x) ∧ Rw g v (rdC l i t) 57 ∧ Touch g w v) (μ := fun q => 256 - q) (x := n) (n + 1) (by exact ⟨fun _ => by kernel_rfl, ⟨fun _ => by kernel_rfl, ⟨fun _ => by kernel_rfl, trivial⟩⟩⟩) ⟨by omega, fun x hx => ?_, hr, hT⟩ (by show 256 - (n + 1) < 256 - n; omega)
      by_cases hx2 : x = n
      · subst hx2
        rintro ⟨o9, k1, k2, k3⟩
        rw [hof] at k1
        cases k1
      · exact hno x (by omega)
    | some o =>
      obtain ⟨hbh, -, -, -, hbw, hlw, -⟩ := nf_small hof
      refine cw_seq ?_
      refine cw_seq ?_
      refine cw_region ?_
      refine rw_p 15 (.int .i64 ((n : Nat) : Int)) (fun _ => by kernel_rfl) (fun _ => by kernel_rfl) ?_
      refine rw_p 16 (.bool true) (fun _ => by kernel_rfl) (fun _ => ol_conv (v := .bool (decide (((n : Nat) : Int) < (256 : Int)))) (by kernel_rfl) (congrArg Value.bool (decide_eq_true (by omega)))) ?_
      refine rw_nil ?_
      refine nw_then ?_
      refine cw_cond_t (fun _ => by kernel_rfl) ?_
      refine cw_skip ?_
      refine nw_then ?_
      refine cw_seq ?_
      refine cw_block ?_
      refine cw_seq ?_
      refine cw_region ?_
      refine rw_p 20 (.int .i64 ((n : Nat) : Int)) (fun _ => by kernel_rfl) (fun _ => by kernel_rfl) ?_
      refine rw_p 21 (.int .u8 ((n : Nat) : Int)) (fun _ => by kernel_rfl) (fun _ => ol_cv 3 5 .i64 .u8 _ ((n : Nat) : Int) ((n : Nat) : Int) rfl Tryd.underlying3 Tryd.underlying5 (by kernel_rfl) (wrapI (by left; exact ⟨rfl, by omega, by omega⟩))) ?_
      refine rw_call 22 10 #[.int .u8 ((n : Nat) : Int)] (fun _ => by kernel_rfl) (fun _ => by kernel_rfl) (R := RVl wl (.tuple #[.agg (NfV o), .bool true])) (rof_yes hof ⟨by omega, by omega⟩ wl) ?_
      rintro _ w10 ⟨rfl, hb11⟩
      replace hT := hT.trans (Touch.of_below hb11)
      replace hr := hr.go hb11
      refine rw_p 19 (.tuple #[.agg (NfV o), .bool true]) (fun _ => by kernel_rfl) (fun _ => by kernel_rfl) ?_
      refine rw_p 23 (.agg (NfV o)) (fun _ => by kernel_rfl) (fun _ => by kernel_rfl) ?_
      refine rw_p 24 (.bool true) (fun _ => by kernel_rfl) (fun _ => by kernel_rfl) ?_
      refine rw_new 7 (#[.string (strOfNums []), .int .i64 0, .int .i64 0, .int .i64 0, .int .u64 0]) 27 (fun _ => by kernel_rfl) (fun _ => by kernel_rfl) ?_
      intro w12 g13 hn14
      have hlgg13 : g < g13 := by have := hr.lt; have := hn14.hg; omega
      have hr15 : Rw g13 w12 (#[.string (strOfNums []), .int .i64 0, .int .i64 0, .int .i64 0, .int .u64 0]) 27 := hn14.row
      refine rw_put g13 (NfV o) (fun _ => by kernel_rfl) (fun _ => ol_store 27 _ _ _ _ _ 27 rfl (by kernel_rfl) (by kernel_rfl) hr15 (by kernel_rfl) rfl (by kernel_rfl)) ?_
      intro w16 hp17
      have hbg13 : Below w10.heap.size w10 w16 := hp17.below hn14.below (Nat.le_of_eq hn14.hg.symm) (by have := hn14.size; have := hn14.hg; omega)
      replace hT := hT.trans (Touch.of_below hbg13)
      replace hr := hr.go hbg13
      have hr18 : Rw g13 w16 (NfV o) 27 := hr15.put hp17
      refine rw_p 8 (.bool true) (fun _ => by kernel_rfl) (fun _ => by kernel_rfl) ?_
      refine rw_nil ?_
      refine nw_then ?_
      refine cw_seq ?_
      refine cw_region ?_
      refine rw_p 25 (.bool true) (fun _ => by kernel_rfl) (fun _ => by kernel_rfl) ?_
      refine rw_p 26 (.bool true) (fun _ => by kernel_rfl) (fun _ => by kernel_rfl) ?_
      refine rw_p 27 (.pointer (some ⟨g13, 0, none⟩)) (fun _ => by kernel_rfl) (fun _ => by kernel_rfl) ?_
      refine rw_p 28 (.string (strOfNums o.wd)) (fun _ => by kernel_rfl) (fun _ => ol_cell 9 _ ⟨g13, 0, none⟩ _ _ rfl (by kernel_rfl) (by rw [cell_of_row _ _ _ _ _ _ hr18]; rfl) Tryd.underlying9 rfl) ?_
      refine rw_p 29 (.string (strOfNums W)) (fun _ => by kernel_rfl) (fun _ => by kernel_rfl) ?_
      refine rw_p 30 (.bool (decide (o.wd = W))) (fun _ => by kernel_rfl) (fun _ => ol_eqS 9 _ _ _ o.wd W rfl (by kernel_rfl) (by kernel_rfl) hbw hbW) ?_
      refine rw_p 31 (.bool (decide (o.wd = W))) (fun _ => by kernel_rfl) (fun _ => by kernel_rfl) ?_
      refine rw_p 32 (.bool (decide (o.wd = W))) (fun _ => by kernel_rfl) (fun _ => by kernel_rfl) ?_
      cases hq19 : (decide (o.wd = W)) with
      | true =>
        have dhq19 := of_decide_eq_true hq19
        refine rw_p 33 (.pointer (some ⟨g13, 1, none⟩)) (fun _ => by kernel_rfl) (fun _ => by kernel_rfl) ?_
        refine rw_p 34 (.int .i64 ((o.bh : Nat) : Int)) (fun _ => by kernel_rfl) (fun _ => ol_cell 3 _ ⟨g13, 1, none⟩ _ _ rfl (by kernel_rfl) (by rw [cell_of_row _ _ _ _ _ _ hr18]; rfl) Tryd.underlying3 rfl) ?_
        refine rw_p 35 (.bool (((o.bh : Nat) : Int) == (0 : Int))) (fun _ => by kernel_rfl) (fun _ => by kernel_rfl) ?_
        refine rw_p 36 (.bool (((o.bh : Nat) : Int) == (0 : Int))) (fun _ => by kernel_rfl) (fun _ => by kernel_rfl) ?_
        refine rw_nil ?_
        refine nw_then ?_
        cases hq20 : (((o.bh : Nat) : Int) == (0 : Int)) with
        | true =>
          have dhq20 := eq_of_beq hq20
          refine cw_cond_t (fun _ => by kernel_rfl) ?_
          refine cw_seq ?_
          refine cw_region ?_
          refine rw_p 37 (.int .i64 ((n : Nat) : Int)) (fun _ => by kernel_rfl) (fun _ => by kernel_rfl) ?_
          refine rw_p 38 (.int .u8 ((n : Nat) : Int)) (fun _ => by kernel_rfl) (fun _ => ol_cv 3 5 .i64 .u8 _ ((n : Nat) : Int) ((n : Nat) : Int) rfl Tryd.underlying3 Tryd.underlying5 (by kernel_rfl) (wrapI (by left; exact ⟨rfl, by omega, by omega⟩))) ?_
          have hz1 := hT.size
          refine rw_newS 39 #[.int .u8 ((n : Nat) : Int)] 5 1 (fun _ => by kernel_rfl) (fun _ => by kernel_rfl) ?_
          intro w21 g22 hn23
          replace hT := hT.trans (Touch.of_below hn23.below)
          replace hr := hr.go hn23.below
          replace hr18 := hr18.go hn23.below
          have ha24 : Ag w21 (some ⟨g22, 0, none⟩) 1 1 [((n : Nat) : Int)] := row_ag (show Row g22 w21 [((n : Nat) : Int)] from hn23.row) rfl (fun x hx => by simp at hx; omega) (by omega)
          have ho25 : OwnB w21 w16.heap.size (.slice (some ⟨g22, 0, none⟩) 1 1) [((n : Nat) : Int)] := own_lit hn23 rfl
          refine rw_p 4 (.slice (some ⟨g22, 0, none⟩) 1 1) (fun _ => by kernel_rfl) (fun _ => by kernel_rfl) ?_
          refine rw_p 5 (.int .i64 0) (fun _ => by kernel_rfl) (fun _ => by kernel_rfl) ?_
          refine rw_nil ?_
          refine nw_then ?_
          refine cw_ret ?_
          refine nw_ret_block ?_
          refine nw_ret_then ?_
          refine nw_ret_then ?_
          refine nw_ret_block ?_
          refine nw_ret_then ?_
          have hbg := mt_bg ⟨o, hof, dhq19, by omega⟩
          rw [st_0 hbg rfl]
          refine nw_ret_body (.tuple #[.slice (some ⟨g22, 0, none⟩) 1 1, .int .i64 0]) (fun _ => by kernel_rfl) ?_
          exact ⟨_, rfl, _, _, _, i, rfl, ha24, hr, (fun h => absurd rfl h), hT⟩
        | false =>
          have dhq20 := ne_of_beq_false hq20
          refine cw_cond_f (fun _ => by kernel_rfl) ?_
          refine cw_skip ?_
          refine nw_block ?_
          refine nw_then ?_
          refine cw_region ?_
          refine rw_p 17 (.int .i64 ((n : Nat) : Int)) (fun _ => by kernel_rfl) (fun _ => by kernel_rfl) ?_
          refine rw_p 18 (.int .i64 ((n + 1 : Nat) : Int)) (fun _ => by kernel_rfl) (fun _ => ol_conv (v := .int .i64 (IntKind.i64.wrap (((n : Nat) : Int) + (1 : Int)))) (by kernel_rfl) (congrArg (Value.int .i64) (show IntKind.i64.wrap (((n : Nat) : Int) + (1 : Int)) = ((n + 1 : Nat) : Int) from (wrap64 (by omega) (by omega)).trans (by omega)))) ?_
          refine rw_p 6 (.int .i64 ((n + 1 : Nat) : Int)) (fun _ => by kernel_rfl) (fun _ => by kernel_rfl) ?_
          refine rw_nil ?_
          refine nw_round (X := Nat) (E := fun q => [(0, .pointer (some ⟨g, 0, none⟩)), (1, .string (strOfNums W)), (6, .int .i64 ((q : Nat) : Int))]) (R := fun q v => q ≤ 256 ∧ (∀ x, x < q → ¬ Mt W x) ∧ Rw g v (rdC l i t) 57 ∧ Touch g w v) (μ := fun q => 256 - q) (x := n) (n + 1) (by exact ⟨fun _ => by kernel_rfl, ⟨fun _ => by kernel_rfl, ⟨fun _ => by kernel_rfl, trivial⟩⟩⟩) ⟨by omega, fun x hx => ?_, hr, hT⟩ (by show 256 - (n + 1) < 256 - n; omega)
          by_cases hx2 : x = n
          · subst hx2
            rintro ⟨o9, k1, k2, k3⟩
            rw [hof] at k1
            cases k1; omega
          · exact hno x (by omega)
      | false =>
        have dhq19 := of_decide_eq_false hq19
        refine rw_off 33 (fun _ => by kernel_rfl) ?_
        refine rw_off 34 (fun _ => by kernel_rfl) ?_
        refine rw_off 35 (fun _ => by kernel_rfl) ?_
        refine rw_p 36 (.bool false) (fun _ => by kernel_rfl) (fun _ => by kernel_rfl) ?_
        refine rw_nil ?_
        refine nw_then ?_
        refine cw_cond_f (fun _ => by kernel_rfl) ?_
        refine cw_skip ?_
        refine nw_block ?_
        refine nw_then ?_
        refine cw_region ?_
        refine rw_p 17 (.int .i64 ((n : Nat) : Int)) (fun _ => by kernel_rfl) (fun _ => by kernel_rfl) ?_
        refine rw_p 18 (.int .i64 ((n + 1 : Nat) : Int)) (fun _ => by kernel_rfl) (fun _ => ol_conv (v := .int .i64 (IntKind.i64.wrap (((n : Nat) : Int) + (1 : Int)))) (by kernel_rfl) (congrArg (Value.int .i64) (show IntKind.i64.wrap (((n : Nat) : Int) + (1 : Int)) = ((n + 1 : Nat) : Int) from (wrap64 (by omega) (by omega)).trans (by omega)))) ?_
        refine rw_p 6 (.int .i64 ((n + 1 : Nat) : Int)) (fun _ => by kernel_rfl) (fun _ => by kernel_rfl) ?_
        refine rw_nil ?_
        refine nw_round (X := Nat) (E := fun q => [(0, .pointer (some ⟨g, 0, none⟩)), (1, .string (strOfNums W)), (6, .int .i64 ((q : Nat) : Int))]) (R := fun q v => q ≤ 256 ∧ (∀ x, x < q → ¬ Mt W x) ∧ Rw g v (rdC l i t) 57 ∧ Touch g w v) (μ := fun q => 256 - q) (x := n) (n + 1) (by exact ⟨fun _ => by kernel_rfl, ⟨fun _ => by kernel_rfl, ⟨fun _ => by kernel_rfl, trivial⟩⟩⟩) ⟨by omega, fun x hx => ?_, hr, hT⟩ (by show 256 - (n + 1) < 256 - n; omega)
        by_cases hx2 : x = n
        · subst hx2
          rintro ⟨o9, k1, k2, k3⟩
          rw [hof] at k1
          cases k1; exact dhq19 k2
        · exact hno x (by omega)
  · skip
    refine cw_seq ?_
    refine cw_seq ?_
    refine cw_region ?_
    refine rw_p 15 (.int .i64 ((n : Nat) : Int)) (fun _ => by kernel_rfl) (fun _ => by kernel_rfl) ?_
    refine rw_p 16 (.bool false) (fun _ => by kernel_rfl) (fun _ => ol_conv (v := .bool (decide (((n : Nat) : Int) < (256 : Int)))) (by kernel_rfl) (congrArg Value.bool (decide_eq_false (by omega)))) ?_
    refine rw_nil ?_
    refine nw_then ?_
    refine cw_cond_f (fun _ => by kernel_rfl) ?_
    refine cw_exit ?_
    refine nw_exit_then ?_
    refine nw_exit_then ?_
    refine nw_exit_here ?_
    refine nw_then ?_
    refine cw_seq ?_
    rcases bg_cases (W := W) (fun x hx => hno x (by omega)) with ⟨hbg, q1, q2, q3, q4, q5⟩ | rfl | rfl | rfl | rfl | ⟨k, k1, k8, rfl⟩
    · skip
      refine cw_region ?_
      refine rw_p 40 (.string (strOfNums W)) (fun _ => by kernel_rfl) (fun _ => by kernel_rfl) ?_
      refine rw_call 41 39 #[.string (strOfNums W)] (fun _ => by kernel_rfl) (fun _ => by kernel_rfl) (R := RVl wl (.int .i64 ((0 : Nat) : Int))) (by have := rwidth (l := W) hbW wl; rw [show wdW W = 0 from q5] at this; exact this) ?_
      rintro _ w26 ⟨rfl, hb27⟩
      replace hT := hT.trans (Touch.of_below hb27)
      replace hr := hr.go hb27
      refine rw_p 9 (.int .i64 ((0 : Nat) : Int)) (fun _ => by kernel_rfl) (fun _ => by kernel_rfl) ?_
      refine rw_nil ?_
      refine nw_then ?_
      refine cw_seq ?_
      refine cw_seq ?_
      refine cw_region ?_
      refine rw_p 42 (.string (strOfNums W)) (fun _ => by kernel_rfl) (fun _ => by kernel_rfl) ?_
      refine rw_p 43 (.bool true) (fun _ => by kernel_rfl) (fun _ => ol_conv (ol_neS 9 _ _ _ W pushW rfl (by kernel_rfl) (by kernel_rfl) hbW (byt_lit (by decide))) (congrArg (fun b => Value.bool (!b)) (decide_eq_false q1))) ?_
      refine rw_p 44 (.bool true) (fun _ => by kernel_rfl) (fun _ => by kernel_rfl) ?_
      refine rw_p 45 (.string (strOfNums W)) (fun _ => by kernel_rfl) (fun _ => by kernel_rfl) ?_
      refine rw_p 46 (.bool true) (fun _ => by kernel_rfl) (fun _ => ol_conv (ol_neS 9 _ _ _ W ([100, 117, 112]) rfl (by kernel_rfl) (by kernel_rfl) hbW (byt_lit (by decide))) (congrArg (fun b => Value.bool (!b)) (decide_eq_false q2))) ?_
      refine rw_p 47 (.bool true) (fun _ => by kernel_rfl) (fun _ => by kernel_rfl) ?_
      refine rw_p 48 (.bool true) (fun _ => by kernel_rfl) (fun _ => by kernel_rfl) ?_
      refine rw_p 49 (.string (strOfNums W)) (fun _ => by kernel_rfl) (fun _ => by kernel_rfl) ?_
      refine rw_p 50 (.bool true) (fun _ => by kernel_rfl) (fun _ => ol_conv (ol_neS 9 _ _ _ W ([115, 119, 97, 112]) rfl (by kernel_rfl) (by kernel_rfl) hbW (byt_lit (by decide))) (congrArg (fun b => Value.bool (!b)) (decide_eq_false q3))) ?_
      refine rw_p 51 (.bool true) (fun _ => by kernel_rfl) (fun _ => by kernel_rfl) ?_
      refine rw_p 52 (.bool true) (fun _ => by kernel_rfl) (fun _ => by kernel_rfl) ?_
      refine rw_p 53 (.string (strOfNums W)) (fun _ => by kernel_rfl) (fun _ => by kernel_rfl) ?_
      refine rw_p 54 (.bool true) (fun _ => by kernel_rfl) (fun _ => ol_conv (ol_neS 9 _ _ _ W byteW rfl (by kernel_rfl) (by kernel_rfl) hbW (byt_lit (by decide))) (congrArg (fun b => Value.bool (!b)) (decide_eq_false q4))) ?_
      refine rw_p 55 (.bool true) (fun _ => by kernel_rfl) (fun _ => by kernel_rfl) ?_
      refine rw_p 56 (.bool true) (fun _ => by kernel_rfl) (fun _ => by kernel_rfl) ?_
      refine rw_p 57 (.int .i64 ((0 : Nat) : Int)) (fun _ => by kernel_rfl) (fun _ => by kernel_rfl) ?_
      refine rw_p 58 (.bool true) (fun _ => by kernel_rfl) (fun _ => ol_conv (v := .bool (((0 : Nat) : Int) == (0 : Int))) (by kernel_rfl) (congrArg Value.bool (rfl))) ?_
      refine rw_p 59 (.bool true) (fun _ => by kernel_rfl) (fun _ => by kernel_rfl) ?_
      refine rw_nil ?_
      refine nw_then ?_
      refine cw_cond_t (fun _ => by kernel_rfl) ?_
      refine cw_seq ?_
      refine cw_region ?_
      refine rw_p 4 (.slice none 0 0) (fun _ => by kernel_rfl) (fun _ => by kernel_rfl) ?_
      refine rw_p 5 (.int .i64 140) (fun _ => by kernel_rfl) (fun _ => by kernel_rfl) ?_
      refine rw_nil ?_
      refine nw_then ?_
      refine cw_ret ?_
      refine nw_ret_then ?_
      rw [st_no hbg]
      refine nw_ret_body (.tuple #[.slice none 0 0, .int .i64 140]) (fun _ => by kernel_rfl) ?_
      exact ⟨_, rfl, _, _, _, i, rfl, ag_nil _, hr, (fun _ => rfl), hT⟩
    · skip
      refine cw_region ?_
      refine rw_p 40 (.string (strOfNums pushW)) (fun _ => by kernel_rfl) (fun _ => by kernel_rfl) ?_
      refine rw_call 41 39 #[.string (strOfNums pushW)] (fun _ => by kernel_rfl) (fun _ => by kernel_rfl) (R := RVl wl (.int .i64 ((0 : Nat) : Int))) (by have := rwidth (l := pushW) hbW wl; rw [show wdW pushW = 0 from rfl] at this; exact this) ?_
      rintro _ w28 ⟨rfl, hb29⟩
      replace hT := hT.trans (Touch.of_below hb29)
      replace hr := hr.go hb29
      refine rw_p 9 (.int .i64 ((0 : Nat) : Int)) (fun _ => by kernel_rfl) (fun _ => by kernel_rfl) ?_
      refine rw_nil ?_
      refine nw_then ?_
      refine cw_seq ?_
      refine cw_seq ?_
      refine cw_region ?_
      refine rw_p 42 (.string (strOfNums pushW)) (fun _ => by kernel_rfl) (fun _ => by kernel_rfl) ?_
      refine rw_p 43 (.bool false) (fun _ => by kernel_rfl) (fun _ => ol_conv (ol_neS 9 _ _ _ pushW pushW rfl (by kernel_rfl) (by kernel_rfl) hbW hbW) (congrArg (fun b => Value.bool (!b)) (decide_eq_true rfl))) ?_
      refine rw_p 44 (.bool false) (fun _ => by kernel_rfl) (fun _ => by kernel_rfl) ?_
      refine rw_off 45 (fun _ => by kernel_rfl) ?_
      refine rw_off 46 (fun _ => by kernel_rfl) ?_
      refine rw_p 47 (.bool false) (fun _ => by kernel_rfl) (fun _ => by kernel_rfl) ?_
      refine rw_p 48 (.bool false) (fun _ => by kernel_rfl) (fun _ => by kernel_rfl) ?_
      refine rw_off 49 (fun _ => by kernel_rfl) ?_
      refine rw_off 50 (fun _ => by kernel_rfl) ?_
      refine rw_p 51 (.bool false) (fun _ => by kernel_rfl) (fun _ => by kernel_rfl) ?_
      refine rw_p 52 (.bool false) (fun _ => by kernel_rfl) (fun _ => by kernel_rfl) ?_
      refine rw_off 53 (fun _ => by kernel_rfl) ?_
      refine rw_off 54 (fun _ => by kernel_rfl) ?_
      refine rw_p 55 (.bool false) (fun _ => by kernel_rfl) (fun _ => by kernel_rfl) ?_
      refine rw_p 56 (.bool false) (fun _ => by kernel_rfl) (fun _ => by kernel_rfl) ?_
      refine rw_off 57 (fun _ => by kernel_rfl) ?_
      refine rw_off 58 (fun _ => by kernel_rfl) ?_
      refine rw_p 59 (.bool false) (fun _ => by kernel_rfl) (fun _ => by kernel_rfl) ?_
      refine rw_nil ?_
      refine nw_then ?_
      refine cw_cond_f (fun _ => by kernel_rfl) ?_
      refine cw_skip ?_
      refine nw_then ?_
      refine cw_seq ?_
      refine cw_region ?_
      refine rw_p 61 (.pointer (some ⟨g, 0, none⟩)) (fun _ => by kernel_rfl) (fun _ => by kernel_rfl) ?_
      refine rw_call 62 26 #[.pointer (some ⟨g, 0, none⟩)] (fun _ => by kernel_rfl) (fun _ => by kernel_rfl) (R := RRd g w28 l (t + rn rest true) (t + rn rest true + (nxW rest).length) (.string (strOfNums (nxW rest)))) (by have := rnext w28 hr hb ht hl; rw [hrest] at this; exact this) ?_
      rintro _ w30 ⟨rfl, hr31, hk32⟩
      replace hT := hT.trans hk32
      clear hr; have hr := hr31
      refine rw_call 63 40 #[.string (strOfNums (nxW rest))] (fun _ => by kernel_rfl) (fun _ => by kernel_rfl) (R := RVl w30 (.tuple #[.int .u64 ((m : Nat) : Int), .bool ok])) (by have := rwparse (l := nxW rest) (byt_nx hbr).2.1 (by omega) w30; rw [hps] at this; exact this) ?_
      rintro _ w33 ⟨rfl, hb34⟩
      replace hT := hT.trans (Touch.of_below hb34)
      replace hr := hr.go hb34
      refine rw_p 60 (.tuple #[.int .u64 ((m : Nat) : Int), .bool ok]) (fun _ => by kernel_rfl) (fun _ => by kernel_rfl) ?_
      refine rw_p 64 (.int .u64 ((m : Nat) : Int)) (fun _ => by kernel_rfl) (fun _ => by kernel_rfl) ?_
      refine rw_p 65 (.bool ok) (fun _ => by kernel_rfl) (fun _ => by kernel_rfl) ?_
      refine rw_p 10 (.int .u64 ((m : Nat) : Int)) (fun _ => by kernel_rfl) (fun _ => by kernel_rfl) ?_
      refine rw_p 11 (.bool ok) (fun _ => by kernel_rfl) (fun _ => by kernel_rfl) ?_
      refine rw_nil ?_
      refine nw_then ?_
      refine cw_seq ?_
      refine cw_seq ?_
      refine cw_region ?_
      refine rw_p 66 (.bool ok) (fun _ => by kernel_rfl) (fun _ => by kernel_rfl) ?_
      refine rw_p 67 (.bool (!ok)) (fun _ => by kernel_rfl) (fun _ => by kernel_rfl) ?_
      refine rw_nil ?_
      refine nw_then ?_
      cases hq35 : (!ok) with
      | true =>
        refine cw_cond_t (fun _ => by kernel_rfl) ?_
        refine cw_seq ?_
        refine cw_region ?_
        refine rw_p 4 (.slice none 0 0) (fun _ => by kernel_rfl) (fun _ => by kernel_rfl) ?_
        refine rw_p 5 (.int .i64 141) (fun _ => by kernel_rfl) (fun _ => by kernel_rfl) ?_
        refine rw_nil ?_
        refine nw_then ?_
        refine cw_ret ?_
        refine nw_ret_then ?_
        rw [hrest]
        have hbad : (ps (nxW rest)).2 = false := by rw [hps]; simpa using hq35
        rw [st_bad bg_push (by omega) (.inl hbad)]
        refine nw_ret_body (.tuple #[.slice none 0 0, .int .i64 141]) (fun _ => by kernel_rfl) ?_
        exact ⟨_, rfl, _, _, _, _, rfl, ag_nil _, hr, (fun _ => rfl), hT⟩
      | false =>
        refine cw_cond_f (fun _ => by kernel_rfl) ?_
        refine cw_skip ?_
        refine nw_then ?_
        refine cw_seq ?_
        refine cw_seq ?_
        refine cw_region ?_
        refine rw_p 68 (.string (strOfNums pushW)) (fun _ => by kernel_rfl) (fun _ => by kernel_rfl) ?_
        refine rw_p 69 (.bool true) (fun _ => by kernel_rfl) (fun _ => ol_conv (ol_eqS 9 _ _ _ pushW pushW rfl (by kernel_rfl) (by kernel_rfl) hbW hbW) (congrArg Value.bool (decide_eq_true rfl))) ?_
        refine rw_nil ?_
        refine nw_then ?_
        refine cw_cond_t (fun _ => by kernel_rfl) ?_
        refine cw_region ?_
        refine rw_p 70 (.int .u64 ((m : Nat) : Int)) (fun _ => by kernel_rfl) (fun _ => by kernel_rfl) ?_
        refine rw_call 71 41 #[.int .u64 ((m : Nat) : Int)] (fun _ => by kernel_rfl) (fun _ => by kernel_rfl) (R := RVl w33 (.int .i64 ((szo m : Nat) : Int))) (rleast hm w33) ?_
        rintro _ w36 ⟨rfl, hb37⟩
        replace hT := hT.trans (Touch.of_below hb37)
        replace hr := hr.go hb37
        refine rw_p 9 (.int .i64 ((szo m : Nat) : Int)) (fun _ => by kernel_rfl) (fun _ => by kernel_rfl) ?_
        refine rw_nil ?_
        refine nw_then ?_
        refine cw_seq ?_
        refine cw_seq ?_
        refine cw_region ?_
        refine rw_p 72 (.int .i64 ((szo m : Nat) : Int)) (fun _ => by kernel_rfl) (fun _ => by kernel_rfl) ?_
        refine rw_p 73 (.bool true) (fun _ => by kernel_rfl) (fun _ => ol_conv (v := .bool (decide (((szo m : Nat) : Int) > (0 : Int)))) (by kernel_rfl) (congrArg Value.bool (decide_eq_true (by omega)))) ?_
        refine rw_nil ?_
        refine nw_then ?_
        refine cw_cond_t (fun _ => by kernel_rfl) ?_
        refine cw_seq ?_
        refine cw_region ?_
        refine rw_p 75 (.int .u64 ((m : Nat) : Int)) (fun _ => by kernel_rfl) (fun _ => by kernel_rfl) ?_
        refine rw_p 76 (.int .i64 ((szo m : Nat) : Int)) (fun _ => by kernel_rfl) (fun _ => by kernel_rfl) ?_
        refine rw_call 77 42 #[.int .u64 ((m : Nat) : Int), .int .i64 ((szo m : Nat) : Int)] (fun _ => by kernel_rfl) (fun _ => by kernel_rfl) (R := fun u w' => ∃ x n c, u = .tuple #[.slice x n c, .bool true] ∧ (m < 256 ^ szo m → Ag w' x n c (bek (szo m) m)) ∧ Bl w36 w') (by have := rpushed hm hso w36; unfold RPu at this; rw [decide_eq_true ((szo_iff hso.1).1 (Nat.le_refl (szo m)))] at this; exact this) ?_
        rintro _ w41 ⟨x38, n39, c40, rfl, ha42, hb43⟩
        replace hT := hT.trans (Touch.of_below hb43)
        replace hr := hr.go hb43
        have hfit : m < 256 ^ szo m := (szo_iff hso.1).1 (Nat.le_refl _)
        have ha42A := ha42 hfit
        refine rw_p 74 (.tuple #[.slice x38 n39 c40, .bool true]) (fun _ => by kernel_rfl) (fun _ => by kernel_rfl) ?_
        refine rw_p 78 (.slice x38 n39 c40) (fun _ => by kernel_rfl) (fun _ => by kernel_rfl) ?_
        refine rw_p 79 (.bool true) (fun _ => by kernel_rfl) (fun _ => by kernel_rfl) ?_
        refine rw_p 12 (.slice x38 n39 c40) (fun _ => by kernel_rfl) (fun _ => by kernel_rfl) ?_
        refine rw_p 13 (.bool true) (fun _ => by kernel_rfl) (fun _ => by kernel_rfl) ?_
        refine rw_nil ?_
        refine nw_then ?_
        refine cw_seq ?_
        refine cw_seq ?_
        refine cw_region ?_
        refine rw_p 80 (.bool true) (fun _ => by kernel_rfl) (fun _ => by kernel_rfl) ?_
        refine rw_p 81 (.bool false) (fun _ => by kernel_rfl) (fun _ => by kernel_rfl) ?_
        refine rw_nil ?_
        refine nw_then ?_
        refine cw_cond_f (fun _ => by kernel_rfl) ?_
        refine cw_skip ?_
        refine nw_then ?_
        refine cw_seq ?_
        refine cw_region ?_
        refine rw_p 82 (.int .i64 ((szo m : Nat) : Int)) (fun _ => by kernel_rfl) (fun _ => by kernel_rfl) ?_
        refine rw_p 83 (.int .i64 ((32 + (szo m) : Nat) : Int)) (fun _ => by kernel_rfl) (fun _ => ol_conv (v := .int .i64 (IntKind.i64.wrap ((32 : Int) + ((szo m : Nat) : Int)))) (by kernel_rfl) (congrArg (Value.int .i64) (show IntKind.i64.wrap ((32 : Int) + ((szo m : Nat) : Int)) = ((32 + (szo m) : Nat) : Int) from (wrap64 (by omega) (by omega)).trans (by omega)))) ?_
        refine rw_p 84 (.int .i64 (((32 + (szo m)) - 1 : Nat) : Int)) (fun _ => by kernel_rfl) (fun _ => ol_conv (v := .int .i64 (IntKind.i64.wrap (((32 + (szo m) : Nat) : Int) - (1 : Int)))) (by kernel_rfl) (congrArg (Value.int .i64) (show IntKind.i64.wrap (((32 + (szo m) : Nat) : Int) - (1 : Int)) = (((32 + (szo m)) - 1 : Nat) : Int) from (wrap64 (by omega) (by omega)).trans (by omega)))) ?_
        refine rw_p 85 (.int .u8 (((32 + (szo m)) - 1 : Nat) : Int)) (fun _ => by kernel_rfl) (fun _ => ol_cv 3 5 .i64 .u8 _ (((32 + (szo m)) - 1 : Nat) : Int) (((32 + (szo m)) - 1 : Nat) : Int) rfl Tryd.underlying3 Tryd.underlying5 (by kernel_rfl) (wrapI (by left; exact ⟨rfl, by omega, by omega⟩))) ?_
        have hz1 := hT.size
        refine rw_newS 86 #[.int .u8 (((32 + (szo m)) - 1 : Nat) : Int)] 5 1 (fun _ => by kernel_rfl) (fun _ => by kernel_rfl) ?_
        intro w44 g45 hn46
        replace hT := hT.trans (Touch.of_below hn46.below)
        replace hr := hr.go hn46.below
        replace ha42A := ha42A.go hn46.below
        have ha47 : Ag w44 (some ⟨g45, 0, none⟩) 1 1 [(((32 + (szo m)) - 1 : Nat) : Int)] := row_ag (show Row g45 w44 [(((32 + (szo m)) - 1 : Nat) : Int)] from hn46.row) rfl (fun x hx => by simp at hx; omega) (by omega)
        have ho48 : OwnB w44 w41.heap.size (.slice (some ⟨g45, 0, none⟩) 1 1) [(((32 + (szo m)) - 1 : Nat) : Int)] := own_lit hn46 rfl
        refine rw_p 14 (.slice (some ⟨g45, 0, none⟩) 1 1) (fun _ => by kernel_rfl) (fun _ => by kernel_rfl) ?_
        refine rw_nil ?_
        refine nw_then ?_
        refine cw_seq ?_
        refine cw_region ?_
        refine rw_p 87 (.slice (some ⟨g45, 0, none⟩) 1 1) (fun _ => by kernel_rfl) (fun _ => by kernel_rfl) ?_
        refine rw_p 88 (.slice x38 n39 c40) (fun _ => by kernel_rfl) (fun _ => by kernel_rfl) ?_
        have hly := ha42A.l
        rw [bek_len] at hly
        obtain ⟨v49, w50, hr51, ho52, hb53⟩ := app_run (ho48.mono hz1) ha42A (by simp; omega) hT.size
        have hby : Byt (([(((32 + (szo m)) - 1 : Nat) : Int)]) ++ (bek (szo m) m)) := byt_app (fun x hx => by simp at hx; omega) ha42A.b
        obtain ⟨x54, c55, rfl, ha56⟩ := OwnB.ag ho52 hby
        refine rw_v 89 (.slice x54 (([(((32 + (szo m)) - 1 : Nat) : Int)]) ++ (bek (szo m) m)).length c55) (fun _ => by kernel_rfl) (fun _ => ol_app hr51 _ _ rfl (by kernel_rfl) (by kernel_rfl)) ?_
        replace hT := touch_app hT hb53 (Nat.le_refl _)
        replace hr := hr.base hb53 hglt
        refine rw_p 14 (.slice x54 (([(((32 + (szo m)) - 1 : Nat) : Int)]) ++ (bek (szo m) m)).length c55) (fun _ => by kernel_rfl) (fun _ => by kernel_rfl) ?_
        refine rw_nil ?_
        refine nw_then ?_
        refine cw_seq ?_
        refine cw_region ?_
        refine rw_p 90 (.slice x54 (([(((32 + (szo m)) - 1 : Nat) : Int)]) ++ (bek (szo m) m)).length c55) (fun _ => by kernel_rfl) (fun _ => by kernel_rfl) ?_
        refine rw_p 4 (.slice x54 (([(((32 + (szo m)) - 1 : Nat) : Int)]) ++ (bek (szo m) m)).length c55) (fun _ => by kernel_rfl) (fun _ => by kernel_rfl) ?_
        refine rw_p 5 (.int .i64 0) (fun _ => by kernel_rfl) (fun _ => by kernel_rfl) ?_
        refine rw_nil ?_
        refine nw_then ?_
        refine cw_ret ?_
        refine nw_ret_then ?_
        rw [hrest]
        have hok : ok = true := by simpa using hq35
        subst hok
        rw [st_push bg_push (by omega) hps (by omega) rfl]
        refine nw_ret_body (.tuple #[.slice x54 (([(((32 + (szo m)) - 1 : Nat) : Int)]) ++ (bek (szo m) m)).length c55, .int .i64 0]) (fun _ => by kernel_rfl) ?_
        have ha2 : Ag w50 x54 (([(((32 + (szo m)) - 1 : Nat) : Int)]) ++ (bek (szo m) m)).length c55 (((31 + szo m : Nat) : Int) :: bek (szo m) m) := by have e9 : ((32 + szo m - 1 : Nat) : Int) = ((31 + szo m : Nat) : Int) := (by omega); rw [← e9]; exact ha56
        exact ⟨_, rfl, _, _, _, _, rfl, ha2, hr, (fun h => absurd rfl h), hT⟩
    · skip
      refine cw_region ?_
      refine rw_p 40 (.string (strOfNums byteW)) (fun _ => by kernel_rfl) (fun _ => by kernel_rfl) ?_
      refine rw_call 41 39 #[.string (strOfNums byteW)] (fun _ => by kernel_rfl) (fun _ => by kernel_rfl) (R := RVl wl (.int .i64 ((0 : Nat) : Int))) (by have := rwidth (l := byteW) hbW wl; rw [show wdW byteW = 0 from rfl] at this; exact this) ?_
      rintro _ w57 ⟨rfl, hb58⟩
      replace hT := hT.trans (Touch.of_below hb58)
      replace hr := hr.go hb58
      refine rw_p 9 (.int .i64 ((0 : Nat) : Int)) (fun _ => by kernel_rfl) (fun _ => by kernel_rfl) ?_
      refine rw_nil ?_
      refine nw_then ?_
      refine cw_seq ?_
      refine cw_seq ?_
      refine cw_region ?_
      refine rw_p 42 (.string (strOfNums byteW)) (fun _ => by kernel_rfl) (fun _ => by kernel_rfl) ?_
      refine rw_p 43 (.bool true) (fun _ => by kernel_rfl) (fun _ => ol_conv (ol_neS 9 _ _ _ byteW pushW rfl (by kernel_rfl) (by kernel_rfl) hbW (byt_lit (by decide))) (congrArg (fun b => Value.bool (!b)) (decide_eq_false (by decide)))) ?_
      refine rw_p 44 (.bool true) (fun _ => by kernel_rfl) (fun _ => by kernel_rfl) ?_
      refine rw_p 45 (.string (strOfNums byteW)) (fun _ => by kernel_rfl) (fun _ => by kernel_rfl) ?_
      refine rw_p 46 (.bool true) (fun _ => by kernel_rfl) (fun _ => ol_conv (ol_neS 9 _ _ _ byteW ([100, 117, 112]) rfl (by kernel_rfl) (by kernel_rfl) hbW (byt_lit (by decide))) (congrArg (fun b => Value.bool (!b)) (decide_eq_false (by decide)))) ?_
      refine rw_p 47 (.bool true) (fun _ => by kernel_rfl) (fun _ => by kernel_rfl) ?_
      refine rw_p 48 (.bool true) (fun _ => by kernel_rfl) (fun _ => by kernel_rfl) ?_
      refine rw_p 49 (.string (strOfNums byteW)) (fun _ => by kernel_rfl) (fun _ => by kernel_rfl) ?_
      refine rw_p 50 (.bool true) (fun _ => by kernel_rfl) (fun _ => ol_conv (ol_neS 9 _ _ _ byteW ([115, 119, 97, 112]) rfl (by kernel_rfl) (by kernel_rfl) hbW (byt_lit (by decide))) (congrArg (fun b => Value.bool (!b)) (decide_eq_false (by decide)))) ?_
      refine rw_p 51 (.bool true) (fun _ => by kernel_rfl) (fun _ => by kernel_rfl) ?_
      refine rw_p 52 (.bool true) (fun _ => by kernel_rfl) (fun _ => by kernel_rfl) ?_
      refine rw_p 53 (.string (strOfNums byteW)) (fun _ => by kernel_rfl) (fun _ => by kernel_rfl) ?_
      refine rw_p 54 (.bool false) (fun _ => by kernel_rfl) (fun _ => ol_conv (ol_neS 9 _ _ _ byteW byteW rfl (by kernel_rfl) (by kernel_rfl) hbW hbW) (congrArg (fun b => Value.bool (!b)) (decide_eq_true rfl))) ?_
      refine rw_p 55 (.bool false) (fun _ => by kernel_rfl) (fun _ => by kernel_rfl) ?_
      refine rw_p 56 (.bool false) (fun _ => by kernel_rfl) (fun _ => by kernel_rfl) ?_
      refine rw_off 57 (fun _ => by kernel_rfl) ?_
      refine rw_off 58 (fun _ => by kernel_rfl) ?_
      refine rw_p 59 (.bool false) (fun _ => by kernel_rfl) (fun _ => by kernel_rfl) ?_
      refine rw_nil ?_
      refine nw_then ?_
      refine cw_cond_f (fun _ => by kernel_rfl) ?_
      refine cw_skip ?_
      refine nw_then ?_
      refine cw_seq ?_
      refine cw_region ?_
      refine rw_p 61 (.pointer (some ⟨g, 0, none⟩)) (fun _ => by kernel_rfl) (fun _ => by kernel_rfl) ?_
      refine rw_call 62 26 #[.pointer (some ⟨g, 0, none⟩)] (fun _ => by kernel_rfl) (fun _ => by kernel_rfl) (R := RRd g w57 l (t + rn rest true) (t + rn rest true + (nxW rest).length) (.string (strOfNums (nxW rest)))) (by have := rnext w57 hr hb ht hl; rw [hrest] at this; exact this) ?_
      rintro _ w59 ⟨rfl, hr60, hk61⟩
      replace hT := hT.trans hk61
      clear hr; have hr := hr60
      refine rw_call 63 40 #[.string (strOfNums (nxW rest))] (fun _ => by kernel_rfl) (fun _ => by kernel_rfl) (R := RVl w59 (.tuple #[.int .u64 ((m : Nat) : Int), .bool ok])) (by have := rwparse (l := nxW rest) (byt_nx hbr).2.1 (by omega) w59; rw [hps] at this; exact this) ?_
      rintro _ w62 ⟨rfl, hb63⟩
      replace hT := hT.trans (Touch.of_below hb63)
      replace hr := hr.go hb63
      refine rw_p 60 (.tuple #[.int .u64 ((m : Nat) : Int), .bool ok]) (fun _ => by kernel_rfl) (fun _ => by kernel_rfl) ?_
      refine rw_p 64 (.int .u64 ((m : Nat) : Int)) (fun _ => by kernel_rfl) (fun _ => by kernel_rfl) ?_
      refine rw_p 65 (.bool ok) (fun _ => by kernel_rfl) (fun _ => by kernel_rfl) ?_
      refine rw_p 10 (.int .u64 ((m : Nat) : Int)) (fun _ => by kernel_rfl) (fun _ => by kernel_rfl) ?_
      refine rw_p 11 (.bool ok) (fun _ => by kernel_rfl) (fun _ => by kernel_rfl) ?_
      refine rw_nil ?_
      refine nw_then ?_
      refine cw_seq ?_
      refine cw_seq ?_
      refine cw_region ?_
      refine rw_p 66 (.bool ok) (fun _ => by kernel_rfl) (fun _ => by kernel_rfl) ?_
      refine rw_p 67 (.bool (!ok)) (fun _ => by kernel_rfl) (fun _ => by kernel_rfl) ?_
      refine rw_nil ?_
      refine nw_then ?_
      cases hq64 : (!ok) with
      | true =>
        refine cw_cond_t (fun _ => by kernel_rfl) ?_
        refine cw_seq ?_
        refine cw_region ?_
        refine rw_p 4 (.slice none 0 0) (fun _ => by kernel_rfl) (fun _ => by kernel_rfl) ?_
        refine rw_p 5 (.int .i64 141) (fun _ => by kernel_rfl) (fun _ => by kernel_rfl) ?_
        refine rw_nil ?_
        refine nw_then ?_
        refine cw_ret ?_
        refine nw_ret_then ?_
        rw [hrest]
        have hbad : (ps (nxW rest)).2 = false := by rw [hps]; simpa using hq64
        rw [st_bad bg_byte (by omega) (.inl hbad)]
        refine nw_ret_body (.tuple #[.slice none 0 0, .int .i64 141]) (fun _ => by kernel_rfl) ?_
        exact ⟨_, rfl, _, _, _, _, rfl, ag_nil _, hr, (fun _ => rfl), hT⟩
      | false =>
        refine cw_cond_f (fun _ => by kernel_rfl) ?_
        refine cw_skip ?_
        refine nw_then ?_
        refine cw_seq ?_
        refine cw_seq ?_
        refine cw_region ?_
        refine rw_p 68 (.string (strOfNums byteW)) (fun _ => by kernel_rfl) (fun _ => by kernel_rfl) ?_
        refine rw_p 69 (.bool false) (fun _ => by kernel_rfl) (fun _ => ol_conv (ol_eqS 9 _ _ _ byteW pushW rfl (by kernel_rfl) (by kernel_rfl) hbW (byt_lit (by decide))) (congrArg Value.bool (decide_eq_false (by decide)))) ?_
        refine rw_nil ?_
        refine nw_then ?_
        refine cw_cond_f (fun _ => by kernel_rfl) ?_
        refine cw_skip ?_
        refine nw_then ?_
        refine cw_seq ?_
        refine cw_seq ?_
        refine cw_region ?_
        refine rw_p 72 (.int .i64 ((0 : Nat) : Int)) (fun _ => by kernel_rfl) (fun _ => by kernel_rfl) ?_
        refine rw_p 73 (.bool false) (fun _ => by kernel_rfl) (fun _ => ol_conv (v := .bool (decide (((0 : Nat) : Int) > (0 : Int)))) (by kernel_rfl) (congrArg Value.bool (rfl))) ?_
        refine rw_nil ?_
        refine nw_then ?_
        refine cw_cond_f (fun _ => by kernel_rfl) ?_
        refine cw_skip ?_
        refine nw_then ?_
        refine cw_seq ?_
        refine cw_seq ?_
        refine cw_region ?_
        refine rw_p 91 (.int .u64 ((m : Nat) : Int)) (fun _ => by kernel_rfl) (fun _ => by kernel_rfl) ?_
        refine rw_p 92 (.bool (decide (((m : Nat) : Int) > (255 : Int)))) (fun _ => by kernel_rfl) (fun _ => by kernel_rfl) ?_
        refine rw_nil ?_
        refine nw_then ?_
        cases hq65 : (decide (((m : Nat) : Int) > (255 : Int))) with
        | true =>
          have dhq65 := of_decide_eq_true hq65
          refine cw_cond_t (fun _ => by kernel_rfl) ?_
          refine cw_seq ?_
          refine cw_region ?_
          refine rw_p 4 (.slice none 0 0) (fun _ => by kernel_rfl) (fun _ => by kernel_rfl) ?_
          refine rw_p 5 (.int .i64 141) (fun _ => by kernel_rfl) (fun _ => by kernel_rfl) ?_
          refine rw_nil ?_
          refine nw_then ?_
          refine cw_ret ?_
          refine nw_ret_then ?_
          rw [hrest]
          have hnf : ¬ m < 256 ^ 1 := by show ¬ m < 256; omega
          have hbad : 1 < szo (ps (nxW rest)).1 := by rw [hps]; show 1 < szo m; have := (szo_iff (m := m) (k := 1) (by omega)).1; omega
          rw [st_bad bg_byte (by omega) (.inr hbad)]
          refine nw_ret_body (.tuple #[.slice none 0 0, .int .i64 141]) (fun _ => by kernel_rfl) ?_
          exact ⟨_, rfl, _, _, _, _, rfl, ag_nil _, hr, (fun _ => rfl), hT⟩
        | false =>
          have dhq65 := of_decide_eq_false hq65
          refine cw_cond_f (fun _ => by kernel_rfl) ?_
          refine cw_skip ?_
          refine nw_then ?_
          refine cw_seq ?_
          refine cw_seq ?_
          refine cw_region ?_
          refine rw_p 93 (.string (strOfNums byteW)) (fun _ => by kernel_rfl) (fun _ => by kernel_rfl) ?_
          refine rw_nil ?_
          refine nw_then ?_
          refine cw_block ?_
          refine cw_seq ?_
          refine cw_region ?_
          refine rw_p 95 (.bool false) (fun _ => by kernel_rfl) (fun _ => ol_conv (ol_eqS 9 _ _ _ byteW ([100, 117, 112]) rfl (by kernel_rfl) (by kernel_rfl) hbW (byt_lit (by decide))) (congrArg Value.bool (decide_eq_false (by decide)))) ?_
          refine rw_p 94 (.bool false) (fun _ => by kernel_rfl) (fun _ => by kernel_rfl) ?_
          refine rw_nil ?_
          refine nw_then ?_
          refine cw_cond_f (fun _ => by kernel_rfl) ?_
          refine cw_seq ?_
          refine cw_region ?_
          refine rw_p 100 (.bool false) (fun _ => by kernel_rfl) (fun _ => ol_conv (ol_eqS 9 _ _ _ byteW ([115, 119, 97, 112]) rfl (by kernel_rfl) (by kernel_rfl) hbW (byt_lit (by decide))) (congrArg Value.bool (decide_eq_false (by decide)))) ?_
          refine rw_p 99 (.bool false) (fun _ => by kernel_rfl) (fun _ => by kernel_rfl) ?_
          refine rw_nil ?_
          refine nw_then ?_
          refine cw_cond_f (fun _ => by kernel_rfl) ?_
          refine cw_skip ?_
          refine nw_block ?_
          refine nw_then ?_
          refine cw_seq ?_
          refine cw_region ?_
          refine rw_p 104 (.int .u64 ((m : Nat) : Int)) (fun _ => by kernel_rfl) (fun _ => by kernel_rfl) ?_
          refine rw_p 105 (.int .u8 ((m : Nat) : Int)) (fun _ => by kernel_rfl) (fun _ => ol_cv 22 5 .u64 .u8 _ ((m : Nat) : Int) ((m : Nat) : Int) rfl Tryd.underlying22 Tryd.underlying5 (by kernel_rfl) (wrapI (by left; exact ⟨rfl, by omega, by omega⟩))) ?_
          have hz1 := hT.size
          refine rw_newS 106 #[.int .u8 ((m : Nat) : Int)] 5 1 (fun _ => by kernel_rfl) (fun _ => by kernel_rfl) ?_
          intro w66 g67 hn68
          replace hT := hT.trans (Touch.of_below hn68.below)
          replace hr := hr.go hn68.below
          have ha69 : Ag w66 (some ⟨g67, 0, none⟩) 1 1 [((m : Nat) : Int)] := row_ag (show Row g67 w66 [((m : Nat) : Int)] from hn68.row) rfl (fun x hx => by simp at hx; omega) (by omega)
          have ho70 : OwnB w66 w62.heap.size (.slice (some ⟨g67, 0, none⟩) 1 1) [((m : Nat) : Int)] := own_lit hn68 rfl
          refine rw_p 4 (.slice (some ⟨g67, 0, none⟩) 1 1) (fun _ => by kernel_rfl) (fun _ => by kernel_rfl) ?_
          refine rw_p 5 (.int .i64 0) (fun _ => by kernel_rfl) (fun _ => by kernel_rfl) ?_
          refine rw_nil ?_
          refine nw_then ?_
          refine cw_ret ?_
          rw [hrest]
          have hok : ok = true := by simpa using hq64
          subst hok
          have h256 : m < 256 ^ 1 := by show m < 256; omega
          rw [st_ok bg_byte (by omega) hps (by have := (szo_iff (m := m) (k := 1) (by omega)).2 h256; omega) (by decide)]
          have hb1 : bek 1 m = [((m : Nat) : Int)] := by show [] ++ [((m % 256 : Nat) : Int)] = _; rw [Nat.mod_eq_of_lt (by omega), List.nil_append]
          rw [hb1]
          refine nw_ret_body (.tuple #[.slice (some ⟨g67, 0, none⟩) 1 1, .int .i64 0]) (fun _ => by kernel_rfl) ?_
          exact ⟨_, rfl, _, _, _, _, rfl, ha69, hr, (fun h => absurd rfl h), hT⟩
    · skip
      refine cw_region ?_
      refine rw_p 40 (.string (strOfNums dupW2)) (fun _ => by kernel_rfl) (fun _ => by kernel_rfl) ?_
      refine rw_call 41 39 #[.string (strOfNums dupW2)] (fun _ => by kernel_rfl) (fun _ => by kernel_rfl) (R := RVl wl (.int .i64 ((0 : Nat) : Int))) (by have := rwidth (l := dupW2) hbW wl; rw [show wdW dupW2 = 0 from rfl] at this; exact this) ?_
      rintro _ w71 ⟨rfl, hb72⟩
      replace hT := hT.trans (Touch.of_below hb72)
      replace hr := hr.go hb72
      refine rw_p 9 (.int .i64 ((0 : Nat) : Int)) (fun _ => by kernel_rfl) (fun _ => by kernel_rfl) ?_
      refine rw_nil ?_
      refine nw_then ?_
      refine cw_seq ?_
      refine cw_seq ?_
      refine cw_region ?_
      refine rw_p 42 (.string (strOfNums dupW2)) (fun _ => by kernel_rfl) (fun _ => by kernel_rfl) ?_
      refine rw_p 43 (.bool true) (fun _ => by kernel_rfl) (fun _ => ol_conv (ol_neS 9 _ _ _ dupW2 pushW rfl (by kernel_rfl) (by kernel_rfl) hbW (byt_lit (by decide))) (congrArg (fun b => Value.bool (!b)) (decide_eq_false (by decide)))) ?_
      refine rw_p 44 (.bool true) (fun _ => by kernel_rfl) (fun _ => by kernel_rfl) ?_
      refine rw_p 45 (.string (strOfNums dupW2)) (fun _ => by kernel_rfl) (fun _ => by kernel_rfl) ?_
      refine rw_p 46 (.bool false) (fun _ => by kernel_rfl) (fun _ => ol_conv (ol_neS 9 _ _ _ dupW2 ([100, 117, 112]) rfl (by kernel_rfl) (by kernel_rfl) hbW (byt_lit (by decide))) (congrArg (fun b => Value.bool (!b)) (decide_eq_true rfl))) ?_
      refine rw_p 47 (.bool false) (fun _ => by kernel_rfl) (fun _ => by kernel_rfl) ?_
      refine rw_p 48 (.bool false) (fun _ => by kernel_rfl) (fun _ => by kernel_rfl) ?_
      refine rw_off 49 (fun _ => by kernel_rfl) ?_
      refine rw_off 50 (fun _ => by kernel_rfl) ?_
      refine rw_p 51 (.bool false) (fun _ => by kernel_rfl) (fun _ => by kernel_rfl) ?_
      refine rw_p 52 (.bool false) (fun _ => by kernel_rfl) (fun _ => by kernel_rfl) ?_
      refine rw_off 53 (fun _ => by kernel_rfl) ?_
      refine rw_off 54 (fun _ => by kernel_rfl) ?_
      refine rw_p 55 (.bool false) (fun _ => by kernel_rfl) (fun _ => by kernel_rfl) ?_
      refine rw_p 56 (.bool false) (fun _ => by kernel_rfl) (fun _ => by kernel_rfl) ?_
      refine rw_off 57 (fun _ => by kernel_rfl) ?_
      refine rw_off 58 (fun _ => by kernel_rfl) ?_
      refine rw_p 59 (.bool false) (fun _ => by kernel_rfl) (fun _ => by kernel_rfl) ?_
      refine rw_nil ?_
      refine nw_then ?_
      refine cw_cond_f (fun _ => by kernel_rfl) ?_
      refine cw_skip ?_
      refine nw_then ?_
      refine cw_seq ?_
      refine cw_region ?_
      refine rw_p 61 (.pointer (some ⟨g, 0, none⟩)) (fun _ => by kernel_rfl) (fun _ => by kernel_rfl) ?_
      refine rw_call 62 26 #[.pointer (some ⟨g, 0, none⟩)] (fun _ => by kernel_rfl) (fun _ => by kernel_rfl) (R := RRd g w71 l (t + rn rest true) (t + rn rest true + (nxW rest).length) (.string (strOfNums (nxW rest)))) (by have := rnext w71 hr hb ht hl; rw [hrest] at this; exact this) ?_
      rintro _ w73 ⟨rfl, hr74, hk75⟩
      replace hT := hT.trans hk75
      clear hr; have hr := hr74
      refine rw_call 63 40 #[.string (strOfNums (nxW rest))] (fun _ => by kernel_rfl) (fun _ => by kernel_rfl) (R := RVl w73 (.tuple #[.int .u64 ((m : Nat) : Int), .bool ok])) (by have := rwparse (l := nxW rest) (byt_nx hbr).2.1 (by omega) w73; rw [hps] at this; exact this) ?_
      rintro _ w76 ⟨rfl, hb77⟩
      replace hT := hT.trans (Touch.of_below hb77)
      replace hr := hr.go hb77
      refine rw_p 60 (.tuple #[.int .u64 ((m : Nat) : Int), .bool ok]) (fun _ => by kernel_rfl) (fun _ => by kernel_rfl) ?_
      refine rw_p 64 (.int .u64 ((m : Nat) : Int)) (fun _ => by kernel_rfl) (fun _ => by kernel_rfl) ?_
      refine rw_p 65 (.bool ok) (fun _ => by kernel_rfl) (fun _ => by kernel_rfl) ?_
      refine rw_p 10 (.int .u64 ((m : Nat) : Int)) (fun _ => by kernel_rfl) (fun _ => by kernel_rfl) ?_
      refine rw_p 11 (.bool ok) (fun _ => by kernel_rfl) (fun _ => by kernel_rfl) ?_
      refine rw_nil ?_
      refine nw_then ?_
      refine cw_seq ?_
      refine cw_seq ?_
      refine cw_region ?_
      refine rw_p 66 (.bool ok) (fun _ => by kernel_rfl) (fun _ => by kernel_rfl) ?_
      refine rw_p 67 (.bool (!ok)) (fun _ => by kernel_rfl) (fun _ => by kernel_rfl) ?_
      refine rw_nil ?_
      refine nw_then ?_
      cases hq78 : (!ok) with
      | true =>
        refine cw_cond_t (fun _ => by kernel_rfl) ?_
        refine cw_seq ?_
        refine cw_region ?_
        refine rw_p 4 (.slice none 0 0) (fun _ => by kernel_rfl) (fun _ => by kernel_rfl) ?_
        refine rw_p 5 (.int .i64 141) (fun _ => by kernel_rfl) (fun _ => by kernel_rfl) ?_
        refine rw_nil ?_
        refine nw_then ?_
        refine cw_ret ?_
        refine nw_ret_then ?_
        rw [hrest]
        have hbad : (ps (nxW rest)).2 = false := by rw [hps]; simpa using hq78
        rw [st_bad (show bgP dupW2 = some ([49], 1) from rfl) (by omega) (.inl hbad)]
        refine nw_ret_body (.tuple #[.slice none 0 0, .int .i64 141]) (fun _ => by kernel_rfl) ?_
        exact ⟨_, rfl, _, _, _, _, rfl, ag_nil _, hr, (fun _ => rfl), hT⟩
      | false =>
        refine cw_cond_f (fun _ => by kernel_rfl) ?_
        refine cw_skip ?_
        refine nw_then ?_
        refine cw_seq ?_
        refine cw_seq ?_
        refine cw_region ?_
        refine rw_p 68 (.string (strOfNums dupW2)) (fun _ => by kernel_rfl) (fun _ => by kernel_rfl) ?_
        refine rw_p 69 (.bool false) (fun _ => by kernel_rfl) (fun _ => ol_conv (ol_eqS 9 _ _ _ dupW2 pushW rfl (by kernel_rfl) (by kernel_rfl) hbW (byt_lit (by decide))) (congrArg Value.bool (decide_eq_false (by decide)))) ?_
        refine rw_nil ?_
        refine nw_then ?_
        refine cw_cond_f (fun _ => by kernel_rfl) ?_
        refine cw_skip ?_
        refine nw_then ?_
        refine cw_seq ?_
        refine cw_seq ?_
        refine cw_region ?_
        refine rw_p 72 (.int .i64 ((0 : Nat) : Int)) (fun _ => by kernel_rfl) (fun _ => by kernel_rfl) ?_
        refine rw_p 73 (.bool false) (fun _ => by kernel_rfl) (fun _ => ol_conv (v := .bool (decide (((0 : Nat) : Int) > (0 : Int)))) (by kernel_rfl) (congrArg Value.bool (rfl))) ?_
        refine rw_nil ?_
        refine nw_then ?_
        refine cw_cond_f (fun _ => by kernel_rfl) ?_
        refine cw_skip ?_
        refine nw_then ?_
        refine cw_seq ?_
        refine cw_seq ?_
        refine cw_region ?_
        refine rw_p 91 (.int .u64 ((m : Nat) : Int)) (fun _ => by kernel_rfl) (fun _ => by kernel_rfl) ?_
        refine rw_p 92 (.bool (decide (((m : Nat) : Int) > (255 : Int)))) (fun _ => by kernel_rfl) (fun _ => by kernel_rfl) ?_
        refine rw_nil ?_
        refine nw_then ?_
        cases hq79 : (decide (((m : Nat) : Int) > (255 : Int))) with
        | true =>
          have dhq79 := of_decide_eq_true hq79
          refine cw_cond_t (fun _ => by kernel_rfl) ?_
          refine cw_seq ?_
          refine cw_region ?_
          refine rw_p 4 (.slice none 0 0) (fun _ => by kernel_rfl) (fun _ => by kernel_rfl) ?_
          refine rw_p 5 (.int .i64 141) (fun _ => by kernel_rfl) (fun _ => by kernel_rfl) ?_
          refine rw_nil ?_
          refine nw_then ?_
          refine cw_ret ?_
          refine nw_ret_then ?_
          rw [hrest]
          have hnf : ¬ m < 256 ^ 1 := by show ¬ m < 256; omega
          have hbad : 1 < szo (ps (nxW rest)).1 := by rw [hps]; show 1 < szo m; have := (szo_iff (m := m) (k := 1) (by omega)).1; omega
          rw [st_bad (show bgP dupW2 = some ([49], 1) from rfl) (by omega) (.inr hbad)]
          refine nw_ret_body (.tuple #[.slice none 0 0, .int .i64 141]) (fun _ => by kernel_rfl) ?_
          exact ⟨_, rfl, _, _, _, _, rfl, ag_nil _, hr, (fun _ => rfl), hT⟩
        | false =>
          have dhq79 := of_decide_eq_false hq79
          refine cw_cond_f (fun _ => by kernel_rfl) ?_
          refine cw_skip ?_
          refine nw_then ?_
          refine cw_seq ?_
          refine cw_seq ?_
          refine cw_region ?_
          refine rw_p 93 (.string (strOfNums dupW2)) (fun _ => by kernel_rfl) (fun _ => by kernel_rfl) ?_
          refine rw_nil ?_
          refine nw_then ?_
          refine cw_block ?_
          refine cw_seq ?_
          refine cw_region ?_
          refine rw_p 95 (.bool true) (fun _ => by kernel_rfl) (fun _ => ol_conv (ol_eqS 9 _ _ _ dupW2 ([100, 117, 112]) rfl (by kernel_rfl) (by kernel_rfl) hbW (byt_lit (by decide))) (congrArg Value.bool (decide_eq_true rfl))) ?_
          refine rw_p 94 (.bool true) (fun _ => by kernel_rfl) (fun _ => by kernel_rfl) ?_
          refine rw_nil ?_
          refine nw_then ?_
          refine cw_cond_t (fun _ => by kernel_rfl) ?_
          refine cw_seq ?_
          refine cw_region ?_
          refine rw_p 96 (.int .u64 ((m : Nat) : Int)) (fun _ => by kernel_rfl) (fun _ => by kernel_rfl) ?_
          refine rw_p 97 (.int .u8 ((m : Nat) : Int)) (fun _ => by kernel_rfl) (fun _ => ol_cv 22 5 .u64 .u8 _ ((m : Nat) : Int) ((m : Nat) : Int) rfl Tryd.underlying22 Tryd.underlying5 (by kernel_rfl) (wrapI (by left; exact ⟨rfl, by omega, by omega⟩))) ?_
          have hz1 := hT.size
          refine rw_newS 98 #[.int .u8 49, .int .u8 ((m : Nat) : Int)] 5 2 (fun _ => by kernel_rfl) (fun _ => by kernel_rfl) ?_
          intro w80 g81 hn82
          replace hT := hT.trans (Touch.of_below hn82.below)
          replace hr := hr.go hn82.below
          have ha83 : Ag w80 (some ⟨g81, 0, none⟩) 2 2 [49, ((m : Nat) : Int)] := row_ag (show Row g81 w80 [49, ((m : Nat) : Int)] from hn82.row) rfl (fun x hx => by simp at hx; omega) (by omega)
          have ho84 : OwnB w80 w76.heap.size (.slice (some ⟨g81, 0, none⟩) 2 2) [49, ((m : Nat) : Int)] := own_lit hn82 rfl
          refine rw_p 4 (.slice (some ⟨g81, 0, none⟩) 2 2) (fun _ => by kernel_rfl) (fun _ => by kernel_rfl) ?_
          refine rw_p 5 (.int .i64 0) (fun _ => by kernel_rfl) (fun _ => by kernel_rfl) ?_
          refine rw_nil ?_
          refine nw_then ?_
          refine cw_ret ?_
          refine nw_ret_block ?_
          refine nw_ret_then ?_
          rw [hrest]
          have hok : ok = true := by simpa using hq78
          subst hok
          have h256 : m < 256 ^ 1 := by show m < 256; omega
          rw [st_ok (show bgP dupW2 = some ([49], 1) from rfl) (by omega) hps (by have := (szo_iff (m := m) (k := 1) (by omega)).2 h256; omega) (by decide)]
          have hb1 : bek 1 m = [((m : Nat) : Int)] := by show [] ++ [((m % 256 : Nat) : Int)] = _; rw [Nat.mod_eq_of_lt (by omega), List.nil_append]
          rw [hb1]
          refine nw_ret_body (.tuple #[.slice (some ⟨g81, 0, none⟩) 2 2, .int .i64 0]) (fun _ => by kernel_rfl) ?_
          exact ⟨_, rfl, _, _, _, _, rfl, ha83, hr, (fun h => absurd rfl h), hT⟩
    · skip
      refine cw_region ?_
      refine rw_p 40 (.string (strOfNums swapW)) (fun _ => by kernel_rfl) (fun _ => by kernel_rfl) ?_
      refine rw_call 41 39 #[.string (strOfNums swapW)] (fun _ => by kernel_rfl) (fun _ => by kernel_rfl) (R := RVl wl (.int .i64 ((0 : Nat) : Int))) (by have := rwidth (l := swapW) hbW wl; rw [show wdW swapW = 0 from rfl] at this; exact this) ?_
      rintro _ w85 ⟨rfl, hb86⟩
      replace hT := hT.trans (Touch.of_below hb86)
      replace hr := hr.go hb86
      refine rw_p 9 (.int .i64 ((0 : Nat) : Int)) (fun _ => by kernel_rfl) (fun _ => by kernel_rfl) ?_
      refine rw_nil ?_
      refine nw_then ?_
      refine cw_seq ?_
      refine cw_seq ?_
      refine cw_region ?_
      refine rw_p 42 (.string (strOfNums swapW)) (fun _ => by kernel_rfl) (fun _ => by kernel_rfl) ?_
      refine rw_p 43 (.bool true) (fun _ => by kernel_rfl) (fun _ => ol_conv (ol_neS 9 _ _ _ swapW pushW rfl (by kernel_rfl) (by kernel_rfl) hbW (byt_lit (by decide))) (congrArg (fun b => Value.bool (!b)) (decide_eq_false (by decide)))) ?_
      refine rw_p 44 (.bool true) (fun _ => by kernel_rfl) (fun _ => by kernel_rfl) ?_
      refine rw_p 45 (.string (strOfNums swapW)) (fun _ => by kernel_rfl) (fun _ => by kernel_rfl) ?_
      refine rw_p 46 (.bool true) (fun _ => by kernel_rfl) (fun _ => ol_conv (ol_neS 9 _ _ _ swapW ([100, 117, 112]) rfl (by kernel_rfl) (by kernel_rfl) hbW (byt_lit (by decide))) (congrArg (fun b => Value.bool (!b)) (decide_eq_false (by decide)))) ?_
      refine rw_p 47 (.bool true) (fun _ => by kernel_rfl) (fun _ => by kernel_rfl) ?_
      refine rw_p 48 (.bool true) (fun _ => by kernel_rfl) (fun _ => by kernel_rfl) ?_
      refine rw_p 49 (.string (strOfNums swapW)) (fun _ => by kernel_rfl) (fun _ => by kernel_rfl) ?_
      refine rw_p 50 (.bool false) (fun _ => by kernel_rfl) (fun _ => ol_conv (ol_neS 9 _ _ _ swapW ([115, 119, 97, 112]) rfl (by kernel_rfl) (by kernel_rfl) hbW (byt_lit (by decide))) (congrArg (fun b => Value.bool (!b)) (decide_eq_true rfl))) ?_
      refine rw_p 51 (.bool false) (fun _ => by kernel_rfl) (fun _ => by kernel_rfl) ?_
      refine rw_p 52 (.bool false) (fun _ => by kernel_rfl) (fun _ => by kernel_rfl) ?_
      refine rw_off 53 (fun _ => by kernel_rfl) ?_
      refine rw_off 54 (fun _ => by kernel_rfl) ?_
      refine rw_p 55 (.bool false) (fun _ => by kernel_rfl) (fun _ => by kernel_rfl) ?_
      refine rw_p 56 (.bool false) (fun _ => by kernel_rfl) (fun _ => by kernel_rfl) ?_
      refine rw_off 57 (fun _ => by kernel_rfl) ?_
      refine rw_off 58 (fun _ => by kernel_rfl) ?_
      refine rw_p 59 (.bool false) (fun _ => by kernel_rfl) (fun _ => by kernel_rfl) ?_
      refine rw_nil ?_
      refine nw_then ?_
      refine cw_cond_f (fun _ => by kernel_rfl) ?_
      refine cw_skip ?_
      refine nw_then ?_
      refine cw_seq ?_
      refine cw_region ?_
      refine rw_p 61 (.pointer (some ⟨g, 0, none⟩)) (fun _ => by kernel_rfl) (fun _ => by kernel_rfl) ?_
      refine rw_call 62 26 #[.pointer (some ⟨g, 0, none⟩)] (fun _ => by kernel_rfl) (fun _ => by kernel_rfl) (R := RRd g w85 l (t + rn rest true) (t + rn rest true + (nxW rest).length) (.string (strOfNums (nxW rest)))) (by have := rnext w85 hr hb ht hl; rw [hrest] at this; exact this) ?_
      rintro _ w87 ⟨rfl, hr88, hk89⟩
      replace hT := hT.trans hk89
      clear hr; have hr := hr88
      refine rw_call 63 40 #[.string (strOfNums (nxW rest))] (fun _ => by kernel_rfl) (fun _ => by kernel_rfl) (R := RVl w87 (.tuple #[.int .u64 ((m : Nat) : Int), .bool ok])) (by have := rwparse (l := nxW rest) (byt_nx hbr).2.1 (by omega) w87; rw [hps] at this; exact this) ?_
      rintro _ w90 ⟨rfl, hb91⟩
      replace hT := hT.trans (Touch.of_below hb91)
      replace hr := hr.go hb91
      refine rw_p 60 (.tuple #[.int .u64 ((m : Nat) : Int), .bool ok]) (fun _ => by kernel_rfl) (fun _ => by kernel_rfl) ?_
      refine rw_p 64 (.int .u64 ((m : Nat) : Int)) (fun _ => by kernel_rfl) (fun _ => by kernel_rfl) ?_
      refine rw_p 65 (.bool ok) (fun _ => by kernel_rfl) (fun _ => by kernel_rfl) ?_
      refine rw_p 10 (.int .u64 ((m : Nat) : Int)) (fun _ => by kernel_rfl) (fun _ => by kernel_rfl) ?_
      refine rw_p 11 (.bool ok) (fun _ => by kernel_rfl) (fun _ => by kernel_rfl) ?_
      refine rw_nil ?_
      refine nw_then ?_
      refine cw_seq ?_
      refine cw_seq ?_
      refine cw_region ?_
      refine rw_p 66 (.bool ok) (fun _ => by kernel_rfl) (fun _ => by kernel_rfl) ?_
      refine rw_p 67 (.bool (!ok)) (fun _ => by kernel_rfl) (fun _ => by kernel_rfl) ?_
      refine rw_nil ?_
      refine nw_then ?_
      cases hq92 : (!ok) with
      | true =>
        refine cw_cond_t (fun _ => by kernel_rfl) ?_
        refine cw_seq ?_
        refine cw_region ?_
        refine rw_p 4 (.slice none 0 0) (fun _ => by kernel_rfl) (fun _ => by kernel_rfl) ?_
        refine rw_p 5 (.int .i64 141) (fun _ => by kernel_rfl) (fun _ => by kernel_rfl) ?_
        refine rw_nil ?_
        refine nw_then ?_
        refine cw_ret ?_
        refine nw_ret_then ?_
        rw [hrest]
        have hbad : (ps (nxW rest)).2 = false := by rw [hps]; simpa using hq92
        rw [st_bad (show bgP swapW = some ([50], 1) from rfl) (by omega) (.inl hbad)]
        refine nw_ret_body (.tuple #[.slice none 0 0, .int .i64 141]) (fun _ => by kernel_rfl) ?_
        exact ⟨_, rfl, _, _, _, _, rfl, ag_nil _, hr, (fun _ => rfl), hT⟩
      | false =>
        refine cw_cond_f (fun _ => by kernel_rfl) ?_
        refine cw_skip ?_
        refine nw_then ?_
        refine cw_seq ?_
        refine cw_seq ?_
        refine cw_region ?_
        refine rw_p 68 (.string (strOfNums swapW)) (fun _ => by kernel_rfl) (fun _ => by kernel_rfl) ?_
        refine rw_p 69 (.bool false) (fun _ => by kernel_rfl) (fun _ => ol_conv (ol_eqS 9 _ _ _ swapW pushW rfl (by kernel_rfl) (by kernel_rfl) hbW (byt_lit (by decide))) (congrArg Value.bool (decide_eq_false (by decide)))) ?_
        refine rw_nil ?_
        refine nw_then ?_
        refine cw_cond_f (fun _ => by kernel_rfl) ?_
        refine cw_skip ?_
        refine nw_then ?_
        refine cw_seq ?_
        refine cw_seq ?_
        refine cw_region ?_
        refine rw_p 72 (.int .i64 ((0 : Nat) : Int)) (fun _ => by kernel_rfl) (fun _ => by kernel_rfl) ?_
        refine rw_p 73 (.bool false) (fun _ => by kernel_rfl) (fun _ => ol_conv (v := .bool (decide (((0 : Nat) : Int) > (0 : Int)))) (by kernel_rfl) (congrArg Value.bool (rfl))) ?_
        refine rw_nil ?_
        refine nw_then ?_
        refine cw_cond_f (fun _ => by kernel_rfl) ?_
        refine cw_skip ?_
        refine nw_then ?_
        refine cw_seq ?_
        refine cw_seq ?_
        refine cw_region ?_
        refine rw_p 91 (.int .u64 ((m : Nat) : Int)) (fun _ => by kernel_rfl) (fun _ => by kernel_rfl) ?_
        refine rw_p 92 (.bool (decide (((m : Nat) : Int) > (255 : Int)))) (fun _ => by kernel_rfl) (fun _ => by kernel_rfl) ?_
        refine rw_nil ?_
        refine nw_then ?_
        cases hq93 : (decide (((m : Nat) : Int) > (255 : Int))) with
        | true =>
          have dhq93 := of_decide_eq_true hq93
          refine cw_cond_t (fun _ => by kernel_rfl) ?_
          refine cw_seq ?_
          refine cw_region ?_
          refine rw_p 4 (.slice none 0 0) (fun _ => by kernel_rfl) (fun _ => by kernel_rfl) ?_
          refine rw_p 5 (.int .i64 141) (fun _ => by kernel_rfl) (fun _ => by kernel_rfl) ?_
          refine rw_nil ?_
          refine nw_then ?_
          refine cw_ret ?_
          refine nw_ret_then ?_
          rw [hrest]
          have hnf : ¬ m < 256 ^ 1 := by show ¬ m < 256; omega
          have hbad : 1 < szo (ps (nxW rest)).1 := by rw [hps]; show 1 < szo m; have := (szo_iff (m := m) (k := 1) (by omega)).1; omega
          rw [st_bad (show bgP swapW = some ([50], 1) from rfl) (by omega) (.inr hbad)]
          refine nw_ret_body (.tuple #[.slice none 0 0, .int .i64 141]) (fun _ => by kernel_rfl) ?_
          exact ⟨_, rfl, _, _, _, _, rfl, ag_nil _, hr, (fun _ => rfl), hT⟩
        | false =>
          have dhq93 := of_decide_eq_false hq93
          refine cw_cond_f (fun _ => by kernel_rfl) ?_
          refine cw_skip ?_
          refine nw_then ?_
          refine cw_seq ?_
          refine cw_seq ?_
          refine cw_region ?_
          refine rw_p 93 (.string (strOfNums swapW)) (fun _ => by kernel_rfl) (fun _ => by kernel_rfl) ?_
          refine rw_nil ?_
          refine nw_then ?_
          refine cw_block ?_
          refine cw_seq ?_
          refine cw_region ?_
          refine rw_p 95 (.bool false) (fun _ => by kernel_rfl) (fun _ => ol_conv (ol_eqS 9 _ _ _ swapW ([100, 117, 112]) rfl (by kernel_rfl) (by kernel_rfl) hbW (byt_lit (by decide))) (congrArg Value.bool (decide_eq_false (by decide)))) ?_
          refine rw_p 94 (.bool false) (fun _ => by kernel_rfl) (fun _ => by kernel_rfl) ?_
          refine rw_nil ?_
          refine nw_then ?_
          refine cw_cond_f (fun _ => by kernel_rfl) ?_
          refine cw_seq ?_
          refine cw_region ?_
          refine rw_p 100 (.bool true) (fun _ => by kernel_rfl) (fun _ => ol_conv (ol_eqS 9 _ _ _ swapW ([115, 119, 97, 112]) rfl (by kernel_rfl) (by kernel_rfl) hbW (byt_lit (by decide))) (congrArg Value.bool (decide_eq_true rfl))) ?_
          refine rw_p 99 (.bool true) (fun _ => by kernel_rfl) (fun _ => by kernel_rfl) ?_
          refine rw_nil ?_
          refine nw_then ?_
          refine cw_cond_t (fun _ => by kernel_rfl) ?_
          refine cw_seq ?_
          refine cw_region ?_
          refine rw_p 101 (.int .u64 ((m : Nat) : Int)) (fun _ => by kernel_rfl) (fun _ => by kernel_rfl) ?_
          refine rw_p 102 (.int .u8 ((m : Nat) : Int)) (fun _ => by kernel_rfl) (fun _ => ol_cv 22 5 .u64 .u8 _ ((m : Nat) : Int) ((m : Nat) : Int) rfl Tryd.underlying22 Tryd.underlying5 (by kernel_rfl) (wrapI (by left; exact ⟨rfl, by omega, by omega⟩))) ?_
          have hz1 := hT.size
          refine rw_newS 103 #[.int .u8 50, .int .u8 ((m : Nat) : Int)] 5 2 (fun _ => by kernel_rfl) (fun _ => by kernel_rfl) ?_
          intro w94 g95 hn96
          replace hT := hT.trans (Touch.of_below hn96.below)
          replace hr := hr.go hn96.below
          have ha97 : Ag w94 (some ⟨g95, 0, none⟩) 2 2 [50, ((m : Nat) : Int)] := row_ag (show Row g95 w94 [50, ((m : Nat) : Int)] from hn96.row) rfl (fun x hx => by simp at hx; omega) (by omega)
          have ho98 : OwnB w94 w90.heap.size (.slice (some ⟨g95, 0, none⟩) 2 2) [50, ((m : Nat) : Int)] := own_lit hn96 rfl
          refine rw_p 4 (.slice (some ⟨g95, 0, none⟩) 2 2) (fun _ => by kernel_rfl) (fun _ => by kernel_rfl) ?_
          refine rw_p 5 (.int .i64 0) (fun _ => by kernel_rfl) (fun _ => by kernel_rfl) ?_
          refine rw_nil ?_
          refine nw_then ?_
          refine cw_ret ?_
          refine nw_ret_block ?_
          refine nw_ret_then ?_
          rw [hrest]
          have hok : ok = true := by simpa using hq92
          subst hok
          have h256 : m < 256 ^ 1 := by show m < 256; omega
          rw [st_ok (show bgP swapW = some ([50], 1) from rfl) (by omega) hps (by have := (szo_iff (m := m) (k := 1) (by omega)).2 h256; omega) (by decide)]
          have hb1 : bek 1 m = [((m : Nat) : Int)] := by show [] ++ [((m % 256 : Nat) : Int)] = _; rw [Nat.mod_eq_of_lt (by omega), List.nil_append]
          rw [hb1]
          refine nw_ret_body (.tuple #[.slice (some ⟨g95, 0, none⟩) 2 2, .int .i64 0]) (fun _ => by kernel_rfl) ?_
          exact ⟨_, rfl, _, _, _, _, rfl, ha97, hr, (fun h => absurd rfl h), hT⟩
    · skip
      refine cw_region ?_
      refine rw_p 40 (.string (strOfNums (pushW ++ pr k))) (fun _ => by kernel_rfl) (fun _ => by kernel_rfl) ?_
      refine rw_call 41 39 #[.string (strOfNums (pushW ++ pr k))] (fun _ => by kernel_rfl) (fun _ => by kernel_rfl) (R := RVl wl (.int .i64 ((k : Nat) : Int))) (by have := rwidth (l := pushW ++ pr k) hbW wl; rw [show wdW (pushW ++ pr k) = k from wdW_sized k1 k8] at this; exact this) ?_
      rintro _ w99 ⟨rfl, hb100⟩
      replace hT := hT.trans (Touch.of_below hb100)
      replace hr := hr.go hb100
      refine rw_p 9 (.int .i64 ((k : Nat) : Int)) (fun _ => by kernel_rfl) (fun _ => by kernel_rfl) ?_
      refine rw_nil ?_
      refine nw_then ?_
      refine cw_seq ?_
      refine cw_seq ?_
      refine cw_region ?_
      refine rw_p 42 (.string (strOfNums (pushW ++ pr k))) (fun _ => by kernel_rfl) (fun _ => by kernel_rfl) ?_
      refine rw_p 43 (.bool true) (fun _ => by kernel_rfl) (fun _ => ol_conv (ol_neS 9 _ _ _ (pushW ++ pr k) pushW rfl (by kernel_rfl) (by kernel_rfl) hbW (byt_lit (by decide))) (congrArg (fun b => Value.bool (!b)) (decide_eq_false (fun e => by have h9 := wdW_sized k1 k8; rw [e] at h9; have : k = 0 := h9.symm; omega)))) ?_
      refine rw_p 44 (.bool true) (fun _ => by kernel_rfl) (fun _ => by kernel_rfl) ?_
      refine rw_p 45 (.string (strOfNums (pushW ++ pr k))) (fun _ => by kernel_rfl) (fun _ => by kernel_rfl) ?_
      refine rw_p 46 (.bool true) (fun _ => by kernel_rfl) (fun _ => ol_conv (ol_neS 9 _ _ _ (pushW ++ pr k) ([100, 117, 112]) rfl (by kernel_rfl) (by kernel_rfl) hbW (byt_lit (by decide))) (congrArg (fun b => Value.bool (!b)) (decide_eq_false (fun e => by have h9 := wdW_sized k1 k8; rw [e] at h9; have : k = 0 := h9.symm; omega)))) ?_
      refine rw_p 47 (.bool true) (fun _ => by kernel_rfl) (fun _ => by kernel_rfl) ?_
      refine rw_p 48 (.bool true) (fun _ => by kernel_rfl) (fun _ => by kernel_rfl) ?_
      refine rw_p 49 (.string (strOfNums (pushW ++ pr k))) (fun _ => by kernel_rfl) (fun _ => by kernel_rfl) ?_
      refine rw_p 50 (.bool true) (fun _ => by kernel_rfl) (fun _ => ol_conv (ol_neS 9 _ _ _ (pushW ++ pr k) ([115, 119, 97, 112]) rfl (by kernel_rfl) (by kernel_rfl) hbW (byt_lit (by decide))) (congrArg (fun b => Value.bool (!b)) (decide_eq_false (fun e => by have h9 := wdW_sized k1 k8; rw [e] at h9; have : k = 0 := h9.symm; omega)))) ?_
      refine rw_p 51 (.bool true) (fun _ => by kernel_rfl) (fun _ => by kernel_rfl) ?_
      refine rw_p 52 (.bool true) (fun _ => by kernel_rfl) (fun _ => by kernel_rfl) ?_
      refine rw_p 53 (.string (strOfNums (pushW ++ pr k))) (fun _ => by kernel_rfl) (fun _ => by kernel_rfl) ?_
      refine rw_p 54 (.bool true) (fun _ => by kernel_rfl) (fun _ => ol_conv (ol_neS 9 _ _ _ (pushW ++ pr k) byteW rfl (by kernel_rfl) (by kernel_rfl) hbW (byt_lit (by decide))) (congrArg (fun b => Value.bool (!b)) (decide_eq_false (fun e => by have h9 := wdW_sized k1 k8; rw [e] at h9; have : k = 0 := h9.symm; omega)))) ?_
      refine rw_p 55 (.bool true) (fun _ => by kernel_rfl) (fun _ => by kernel_rfl) ?_
      refine rw_p 56 (.bool true) (fun _ => by kernel_rfl) (fun _ => by kernel_rfl) ?_
      refine rw_p 57 (.int .i64 ((k : Nat) : Int)) (fun _ => by kernel_rfl) (fun _ => by kernel_rfl) ?_
      refine rw_p 58 (.bool false) (fun _ => by kernel_rfl) (fun _ => ol_conv (v := .bool (((k : Nat) : Int) == (0 : Int))) (by kernel_rfl) (congrArg Value.bool (by simp; omega))) ?_
      refine rw_p 59 (.bool false) (fun _ => by kernel_rfl) (fun _ => by kernel_rfl) ?_
      refine rw_nil ?_
      refine nw_then ?_
      refine cw_cond_f (fun _ => by kernel_rfl) ?_
      refine cw_skip ?_
      refine nw_then ?_
      refine cw_seq ?_
      refine cw_region ?_
      refine rw_p 61 (.pointer (some ⟨g, 0, none⟩)) (fun _ => by kernel_rfl) (fun _ => by kernel_rfl) ?_
      refine rw_call 62 26 #[.pointer (some ⟨g, 0, none⟩)] (fun _ => by kernel_rfl) (fun _ => by kernel_rfl) (R := RRd g w99 l (t + rn rest true) (t + rn rest true + (nxW rest).length) (.string (strOfNums (nxW rest)))) (by have := rnext w99 hr hb ht hl; rw [hrest] at this; exact this) ?_
      rintro _ w101 ⟨rfl, hr102, hk103⟩
      replace hT := hT.trans hk103
      clear hr; have hr := hr102
      refine rw_call 63 40 #[.string (strOfNums (nxW rest))] (fun _ => by kernel_rfl) (fun _ => by kernel_rfl) (R := RVl w101 (.tuple #[.int .u64 ((m : Nat) : Int), .bool ok])) (by have := rwparse (l := nxW rest) (byt_nx hbr).2.1 (by omega) w101; rw [hps] at this; exact this) ?_
      rintro _ w104 ⟨rfl, hb105⟩
      replace hT := hT.trans (Touch.of_below hb105)
      replace hr := hr.go hb105
      refine rw_p 60 (.tuple #[.int .u64 ((m : Nat) : Int), .bool ok]) (fun _ => by kernel_rfl) (fun _ => by kernel_rfl) ?_
      refine rw_p 64 (.int .u64 ((m : Nat) : Int)) (fun _ => by kernel_rfl) (fun _ => by kernel_rfl) ?_
      refine rw_p 65 (.bool ok) (fun _ => by kernel_rfl) (fun _ => by kernel_rfl) ?_
      refine rw_p 10 (.int .u64 ((m : Nat) : Int)) (fun _ => by kernel_rfl) (fun _ => by kernel_rfl) ?_
      refine rw_p 11 (.bool ok) (fun _ => by kernel_rfl) (fun _ => by kernel_rfl) ?_
      refine rw_nil ?_
      refine nw_then ?_
      refine cw_seq ?_
      refine cw_seq ?_
      refine cw_region ?_
      refine rw_p 66 (.bool ok) (fun _ => by kernel_rfl) (fun _ => by kernel_rfl) ?_
      refine rw_p 67 (.bool (!ok)) (fun _ => by kernel_rfl) (fun _ => by kernel_rfl) ?_
      refine rw_nil ?_
      refine nw_then ?_
      cases hq106 : (!ok) with
      | true =>
        refine cw_cond_t (fun _ => by kernel_rfl) ?_
        refine cw_seq ?_
        refine cw_region ?_
        refine rw_p 4 (.slice none 0 0) (fun _ => by kernel_rfl) (fun _ => by kernel_rfl) ?_
        refine rw_p 5 (.int .i64 141) (fun _ => by kernel_rfl) (fun _ => by kernel_rfl) ?_
        refine rw_nil ?_
        refine nw_then ?_
        refine cw_ret ?_
        refine nw_ret_then ?_
        rw [hrest]
        have hbad : (ps (nxW rest)).2 = false := by rw [hps]; simpa using hq106
        rw [st_bad (bg_sized k1 k8 rfl) (by omega) (.inl hbad)]
        refine nw_ret_body (.tuple #[.slice none 0 0, .int .i64 141]) (fun _ => by kernel_rfl) ?_
        exact ⟨_, rfl, _, _, _, _, rfl, ag_nil _, hr, (fun _ => rfl), hT⟩
      | false =>
        refine cw_cond_f (fun _ => by kernel_rfl) ?_
        refine cw_skip ?_
        refine nw_then ?_
        refine cw_seq ?_
        refine cw_seq ?_
        refine cw_region ?_
        refine rw_p 68 (.string (strOfNums (pushW ++ pr k))) (fun _ => by kernel_rfl) (fun _ => by kernel_rfl) ?_
        refine rw_p 69 (.bool false) (fun _ => by kernel_rfl) (fun _ => ol_conv (ol_eqS 9 _ _ _ (pushW ++ pr k) pushW rfl (by kernel_rfl) (by kernel_rfl) hbW (byt_lit (by decide))) (congrArg Value.bool (decide_eq_false (fun e => by have h9 := wdW_sized k1 k8; rw [e] at h9; have : k = 0 := h9.symm; omega)))) ?_
        refine rw_nil ?_
        refine nw_then ?_
        refine cw_cond_f (fun _ => by kernel_rfl) ?_
        refine cw_skip ?_
        refine nw_then ?_
        refine cw_seq ?_
        refine cw_seq ?_
        refine cw_region ?_
        refine rw_p 72 (.int .i64 ((k : Nat) : Int)) (fun _ => by kernel_rfl) (fun _ => by kernel_rfl) ?_
        refine rw_p 73 (.bool true) (fun _ => by kernel_rfl) (fun _ => ol_conv (v := .bool (decide (((k : Nat) : Int) > (0 : Int)))) (by kernel_rfl) (congrArg Value.bool (decide_eq_true (by omega)))) ?_
        refine rw_nil ?_
        refine nw_then ?_
        refine cw_cond_t (fun _ => by kernel_rfl) ?_
        refine cw_seq ?_
        refine cw_region ?_
        refine rw_p 75 (.int .u64 ((m : Nat) : Int)) (fun _ => by kernel_rfl) (fun _ => by kernel_rfl) ?_
        refine rw_p 76 (.int .i64 ((k : Nat) : Int)) (fun _ => by kernel_rfl) (fun _ => by kernel_rfl) ?_
        refine rw_call 77 42 #[.int .u64 ((m : Nat) : Int), .int .i64 ((k : Nat) : Int)] (fun _ => by kernel_rfl) (fun _ => by kernel_rfl) (R := RPu w104 m k) (rpushed hm ⟨by omega, by omega⟩ w104) ?_
        rintro _ w110 ⟨x107, n108, c109, rfl, ha111, hb112⟩
        replace hT := hT.trans (Touch.of_below hb112)
        replace hr := hr.go hb112
        refine rw_p 74 (.tuple #[.slice x107 n108 c109, .bool (decide (m < 256 ^ k))]) (fun _ => by kernel_rfl) (fun _ => by kernel_rfl) ?_
        refine rw_p 78 (.slice x107 n108 c109) (fun _ => by kernel_rfl) (fun _ => by kernel_rfl) ?_
        refine rw_p 79 (.bool (decide (m < 256 ^ k))) (fun _ => by kernel_rfl) (fun _ => by kernel_rfl) ?_
        refine rw_p 12 (.slice x107 n108 c109) (fun _ => by kernel_rfl) (fun _ => by kernel_rfl) ?_
        refine rw_p 13 (.bool (decide (m < 256 ^ k))) (fun _ => by kernel_rfl) (fun _ => by kernel_rfl) ?_
        refine rw_nil ?_
        refine nw_then ?_
        refine cw_seq ?_
        refine cw_seq ?_
        refine cw_region ?_
        refine rw_p 80 (.bool (decide (m < 256 ^ k))) (fun _ => by kernel_rfl) (fun _ => by kernel_rfl) ?_
        refine rw_p 81 (.bool (!(decide (m < 256 ^ k)))) (fun _ => by kernel_rfl) (fun _ => by kernel_rfl) ?_
        refine rw_nil ?_
        refine nw_then ?_
        cases hq113 : (!(decide (m < 256 ^ k))) with
        | true =>
          refine cw_cond_t (fun _ => by kernel_rfl) ?_
          refine cw_seq ?_
          refine cw_region ?_
          refine rw_p 4 (.slice none 0 0) (fun _ => by kernel_rfl) (fun _ => by kernel_rfl) ?_
          refine rw_p 5 (.int .i64 141) (fun _ => by kernel_rfl) (fun _ => by kernel_rfl) ?_
          refine rw_nil ?_
          refine nw_then ?_
          refine cw_ret ?_
          refine nw_ret_then ?_
          refine nw_ret_then ?_
          rw [hrest]
          have hnf : ¬ m < 256 ^ k := by simpa using hq113
          have hbad : k < szo (ps (nxW rest)).1 := by rw [hps]; show k < szo m; have := (szo_iff (m := m) (k := k) (by omega)).1; omega
          rw [st_bad (bg_sized k1 k8 rfl) (by omega) (.inr hbad)]
          refine nw_ret_body (.tuple #[.slice none 0 0, .int .i64 141]) (fun _ => by kernel_rfl) ?_
          exact ⟨_, rfl, _, _, _, _, rfl, ag_nil _, hr, (fun _ => rfl), hT⟩
        | false =>
          refine cw_cond_f (fun _ => by kernel_rfl) ?_
          refine cw_skip ?_
          refine nw_then ?_
          refine cw_seq ?_
          have hfit : m < 256 ^ k := by simpa using hq113
          have ha111A := ha111 hfit
          refine cw_region ?_
          refine rw_p 82 (.int .i64 ((k : Nat) : Int)) (fun _ => by kernel_rfl) (fun _ => by kernel_rfl) ?_
          refine rw_p 83 (.int .i64 ((32 + k : Nat) : Int)) (fun _ => by kernel_rfl) (fun _ => ol_conv (v := .int .i64 (IntKind.i64.wrap ((32 : Int) + ((k : Nat) : Int)))) (by kernel_rfl) (congrArg (Value.int .i64) (show IntKind.i64.wrap ((32 : Int) + ((k : Nat) : Int)) = ((32 + k : Nat) : Int) from (wrap64 (by omega) (by omega)).trans (by omega)))) ?_
          refine rw_p 84 (.int .i64 (((32 + k) - 1 : Nat) : Int)) (fun _ => by kernel_rfl) (fun _ => ol_conv (v := .int .i64 (IntKind.i64.wrap (((32 + k : Nat) : Int) - (1 : Int)))) (by kernel_rfl) (congrArg (Value.int .i64) (show IntKind.i64.wrap (((32 + k : Nat) : Int) - (1 : Int)) = (((32 + k) - 1 : Nat) : Int) from (wrap64 (by omega) (by omega)).trans (by omega)))) ?_
          refine rw_p 85 (.int .u8 (((32 + k) - 1 : Nat) : Int)) (fun _ => by kernel_rfl) (fun _ => ol_cv 3 5 .i64 .u8 _ (((32 + k) - 1 : Nat) : Int) (((32 + k) - 1 : Nat) : Int) rfl Tryd.underlying3 Tryd.underlying5 (by kernel_rfl) (wrapI (by left; exact ⟨rfl, by omega, by omega⟩))) ?_
          have hz1 := hT.size
          refine rw_newS 86 #[.int .u8 (((32 + k) - 1 : Nat) : Int)] 5 1 (fun _ => by kernel_rfl) (fun _ => by kernel_rfl) ?_
          intro w114 g115 hn116
          replace hT := hT.trans (Touch.of_below hn116.below)
          replace hr := hr.go hn116.below
          replace ha111A := ha111A.go hn116.below
          have ha117 : Ag w114 (some ⟨g115, 0, none⟩) 1 1 [(((32 + k) - 1 : Nat) : Int)] := row_ag (show Row g115 w114 [(((32 + k) - 1 : Nat) : Int)] from hn116.row) rfl (fun x hx => by simp at hx; omega) (by omega)
          have ho118 : OwnB w114 w110.heap.size (.slice (some ⟨g115, 0, none⟩) 1 1) [(((32 + k) - 1 : Nat) : Int)] := own_lit hn116 rfl
          refine rw_p 14 (.slice (some ⟨g115, 0, none⟩) 1 1) (fun _ => by kernel_rfl) (fun _ => by kernel_rfl) ?_
          refine rw_nil ?_
          refine nw_then ?_
          refine cw_seq ?_
          refine cw_region ?_
          refine rw_p 87 (.slice (some ⟨g115, 0, none⟩) 1 1) (fun _ => by kernel_rfl) (fun _ => by kernel_rfl) ?_
          refine rw_p 88 (.slice x107 n108 c109) (fun _ => by kernel_rfl) (fun _ => by kernel_rfl) ?_
          have hly := ha111A.l
          rw [bek_len] at hly
          obtain ⟨v119, w120, hr121, ho122, hb123⟩ := app_run (ho118.mono hz1) ha111A (by simp; omega) hT.size
          have hby : Byt (([(((32 + k) - 1 : Nat) : Int)]) ++ (bek k m)) := byt_app (fun x hx => by simp at hx; omega) ha111A.b
          obtain ⟨x124, c125, rfl, ha126⟩ := OwnB.ag ho122 hby
          refine rw_v 89 (.slice x124 (([(((32 + k) - 1 : Nat) : Int)]) ++ (bek k m)).length c125) (fun _ => by kernel_rfl) (fun _ => ol_app hr121 _ _ rfl (by kernel_rfl) (by kernel_rfl)) ?_
          replace hT := touch_app hT hb123 (Nat.le_refl _)
          replace hr := hr.base hb123 hglt
          refine rw_p 14 (.slice x124 (([(((32 + k) - 1 : Nat) : Int)]) ++ (bek k m)).length c125) (fun _ => by kernel_rfl) (fun _ => by kernel_rfl) ?_
          refine rw_nil ?_
          refine nw_then ?_
          refine cw_seq ?_
          refine cw_region ?_
          refine rw_p 90 (.slice x124 (([(((32 + k) - 1 : Nat) : Int)]) ++ (bek k m)).length c125) (fun _ => by kernel_rfl) (fun _ => by kernel_rfl) ?_
          refine rw_p 4 (.slice x124 (([(((32 + k) - 1 : Nat) : Int)]) ++ (bek k m)).length c125) (fun _ => by kernel_rfl) (fun _ => by kernel_rfl) ?_
          refine rw_p 5 (.int .i64 0) (fun _ => by kernel_rfl) (fun _ => by kernel_rfl) ?_
          refine rw_nil ?_
          refine nw_then ?_
          refine cw_ret ?_
          refine nw_ret_then ?_
          rw [hrest]
          have hok : ok = true := by simpa using hq106
          subst hok
          rw [st_ok (bg_sized k1 k8 rfl) (by omega) hps (by have := (szo_iff (m := m) k1).2 hfit; omega) (fun e => pr_ne _ (List.append_right_eq_self.1 e))]
          refine nw_ret_body (.tuple #[.slice x124 (([(((32 + k) - 1 : Nat) : Int)]) ++ (bek k m)).length c125, .int .i64 0]) (fun _ => by kernel_rfl) ?_
          have ha2 : Ag w120 x124 (([(((32 + k) - 1 : Nat) : Int)]) ++ (bek k m)).length c125 (((31 + k : Nat) : Int) :: bek k m) := by have e9 : ((32 + k - 1 : Nat) : Int) = ((31 + k : Nat) : Int) := (by omega); rw [← e9]; exact ha126
          exact ⟨_, rfl, _, _, _, _, rfl, ha2, hr, (fun h => absurd rfl h), hT⟩
end Go.Proofs.YtbjjboicfghldaaDoor

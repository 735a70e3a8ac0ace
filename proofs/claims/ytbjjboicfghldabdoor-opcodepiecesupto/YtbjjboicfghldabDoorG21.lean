/- What the program's Marks and Print answer. -/
import Derived.Test.YtbjjboicfghldabDoorG20
namespace Go.Proofs.YtbjjboicfghldabDoor
open Go.RowKit
open Wo
set_option linter.unusedVariables false
set_option maxRecDepth 100000
def RIl (w : World) (ms : List Nat) : Value → World → Prop := fun u w' => Own 3 w' w.heap.size u (ms.map intV) ∧ Bl w w'
theorem drop_cons {b : List Int} {p : Nat} (hp : p < b.length) : ∃ r, b.drop p = b.getD p 0 :: r := by
  refine ⟨b.drop (p + 1), ?_⟩
  rw [List.drop_eq_getElem_cons hp, List.getD, List.getElem?_eq_getElem hp]
  rfl
theorem mk_step {b : List Int} {p : Nat} (hp : p < b.length) : mkF p (b.drop p) = (if b.getD p 0 = 66 then [p] else []) ++ mkF (p + szP (b.drop p)) (b.drop (p + szP (b.drop p))) := by
  obtain ⟨r, hr⟩ := drop_cons hp
  rw [← List.drop_drop, hr, mkF_cons]
theorem pc_step {b : List Int} (h : 0 < b.length) : pcF b = b.take (szP b) :: pcF (b.drop (szP b)) := by
  cases b with
  | nil => simp at h
  | cons x r => exact pcF_cons x r
theorem sz_drop {b : List Int} {p : Nat} (hp : p < b.length) : 1 ≤ szP (b.drop p) ∧ p + szP (b.drop p) ≤ b.length := by
  have h1 := szP_pos (b.drop p)
  have h2 := szP_le (l := b.drop p) (by intro e; have := congrArg List.length e; simp at this; omega)
  rw [List.length_drop] at h2
  omega
set_option maxHeartbeats 1000000 in
theorem wmarks {a : Option Addr} {n c : Nat} {b : List Int} (w : World) (h : Ag w a n c b) (ht : Tb w) (hn : n ≤ 1048576) : Calls Tryd.prog 8 #[.slice a n c] w fun e w' => ∃ v, e = .returned v ∧ RIl w (mkF 0 b) v w' := by
  have ht0 := ht
  have hl := h.l
  have hB : Bl w w := Bl.refl w
  refine cw_enter Tryd.func8 rfl 25 rfl ?_
  show CW _ _ _ _ _ _ _ [(0, .slice a n c)] _
  refine cw_seq ?_
  refine cw_region ?_
  refine rw_p 2 (.slice none 0 0) (fun _ => by kernel_rfl) (fun _ => by kernel_rfl) ?_
  refine rw_nil ?_
  refine nw_then ?_
  refine cw_seq ?_
  refine cw_region ?_
  refine rw_p 3 (.slice none 0 0) (fun _ => by kernel_rfl) (fun _ => by kernel_rfl) ?_
  refine rw_nil ?_
  refine nw_then ?_
  refine cw_seq ?_
  refine cw_seq ?_
  refine cw_region ?_
  refine rw_p 4 (.int .i64 0) (fun _ => by kernel_rfl) (fun _ => by kernel_rfl) ?_
  refine rw_nil ?_
  refine nw_then ?_
  refine cw_block ?_
  refine cw_loop (X := Nat × Value × List Nat) (fun q => [(0, .slice a n c), (3, q.2.1), (4, .int .i64 ((q.1 : Nat) : Int))]) (fun q v => q.1 ≤ n ∧ Own 3 v w.heap.size q.2.1 (q.2.2.map intV) ∧ q.2.2 ++ mkF q.1 (b.drop q.1) = mkF 0 b ∧ Bl w v ∧ q.2.2.length ≤ q.1) (fun q => n - q.1) (0, .slice none 0 0, []) (by exact ⟨fun _ => by kernel_rfl, ⟨fun _ => by kernel_rfl, ⟨fun _ => by kernel_rfl, trivial⟩⟩⟩) ⟨by simp, own_nil _ _ _, rfl, hB, by simp⟩ ?_
  rintro ⟨p, u, ms⟩ wl ⟨hp, ho, hm, hB, hml⟩
  simp only at hp ho hm hml
  show CW _ _ _ _ _ _ _ [(0, .slice a n c), (3, u), (4, .int .i64 ((p : Nat) : Int))] _
  have h1 := h.go hB
  have ht := ht0.go hB
  by_cases hlt : p < n
  · skip
    obtain ⟨hs1, hs2⟩ := sz_drop (b := b) (p := p) (by omega)
    obtain ⟨gb1, of2, rfl, hc3⟩ := h1.at0 (k := p) (by omega)
    refine cw_seq ?_
    refine cw_seq ?_
    refine cw_region ?_
    refine rw_p 5 (.int .i64 ((p : Nat) : Int)) (fun _ => by kernel_rfl) (fun _ => by kernel_rfl) ?_
    refine rw_p 6 (.slice (some ⟨gb1, of2, none⟩) n c) (fun _ => by kernel_rfl) (fun _ => by kernel_rfl) ?_
    refine rw_p 7 (.int .i64 ((n : Nat) : Int)) (fun _ => by kernel_rfl) (fun _ => by kernel_rfl) ?_
    refine rw_p 8 (.bool true) (fun _ => by kernel_rfl) (fun _ => ol_conv (v := .bool (decide (((p : Nat) : Int) < ((n : Nat) : Int)))) (by kernel_rfl) (congrArg Value.bool (decide_eq_true (by omega)))) ?_
    refine rw_nil ?_
    refine nw_then ?_
    refine cw_cond_t (fun _ => by kernel_rfl) ?_
    refine cw_skip ?_
    refine nw_then ?_
    refine cw_seq ?_
    refine cw_block ?_
    refine cw_seq ?_
    refine cw_region ?_
    refine rw_p 15 (.slice (some ⟨gb1, of2, none⟩) n c) (fun _ => by kernel_rfl) (fun _ => by kernel_rfl) ?_
    refine rw_p 16 (.int .i64 ((p : Nat) : Int)) (fun _ => by kernel_rfl) (fun _ => by kernel_rfl) ?_
    refine rw_p 17 (.pointer (some ⟨gb1, of2 + p * 1, none⟩)) (fun _ => by kernel_rfl) (fun _ => ol_index 22 _ _ gb1 of2 p n c 1 5 rfl (by kernel_rfl) (by kernel_rfl) (by omega) Tryd.underlying22 (by kernel_rfl)) ?_
    refine rw_p 18 (.int .u8 (b.getD p 0)) (fun _ => by kernel_rfl) (fun _ => ol_cell 5 _ ⟨gb1, of2 + p * 1, none⟩ _ _ rfl (by kernel_rfl) hc3 Tryd.underlying5 rfl) ?_
    refine rw_p 19 (.bool ((b.getD p 0 : Int) == (66 : Int))) (fun _ => by kernel_rfl) (fun _ => by kernel_rfl) ?_
    refine rw_nil ?_
    refine nw_then ?_
    cases hq4 : ((b.getD p 0 : Int) == (66 : Int)) with
    | true =>
      have dhq4 := eq_of_beq hq4
      refine cw_cond_t (fun _ => by kernel_rfl) ?_
      refine cw_region ?_
      refine rw_p 20 (u) (fun _ => by kernel_rfl) (fun _ => by kernel_rfl) ?_
      refine rw_p 21 (.int .i64 ((p : Nat) : Int)) (fun _ => by kernel_rfl) (fun _ => by kernel_rfl) ?_
      refine rw_newS 22 #[.int .i64 ((p : Nat) : Int)] 3 1 (fun _ => by kernel_rfl) (fun _ => by kernel_rfl) ?_
      intro w5 g6 hn7
      obtain ⟨u8, w9, hr10, ho11, hb12⟩ := app_one (t := 30) (e := 3) (bytes := 8) (z := .int .i64 0) Tryd.underlying30 (by kernel_rfl) rfl ho hn7 rfl (by rw [List.length_map]; omega) (by unfold maxLen; rw [List.length_map]; omega) hB.size
      refine rw_v 23 u8 (fun _ => by kernel_rfl) (fun _ => ol_app1 hr10 _ _ rfl (by kernel_rfl) (by kernel_rfl)) ?_
      replace hB : Bl w w9 := Below.trans (hB.go hn7.below) hb12
      replace h1 := h.go hB
      replace ht := ht0.go hB
      refine rw_p 3 (u8) (fun _ => by kernel_rfl) (fun _ => by kernel_rfl) ?_
      refine rw_nil ?_
      refine nw_block ?_
      refine nw_then ?_
      refine cw_region ?_
      refine rw_p 9 (.int .i64 ((p : Nat) : Int)) (fun _ => by kernel_rfl) (fun _ => by kernel_rfl) ?_
      refine rw_p 10 (.slice (some ⟨gb1, of2, none⟩) n c) (fun _ => by kernel_rfl) (fun _ => by kernel_rfl) ?_
      refine rw_p 11 (.int .i64 ((p : Nat) : Int)) (fun _ => by kernel_rfl) (fun _ => by kernel_rfl) ?_
      have ha13 := h1.from (k := p) (by omega)
      refine rw_p 12 (.slice (cutA (some ⟨gb1, of2, none⟩) p c) (n - p) (c - p)) (fun _ => by kernel_rfl) (fun _ => ol_from _ _ (some ⟨gb1, of2, none⟩) n c p rfl (by kernel_rfl) (by kernel_rfl) (by omega) h1.cap) ?_
      refine rw_call 13 15 #[.slice (cutA (some ⟨gb1, of2, none⟩) p c) (n - p) (c - p)] (fun _ => by kernel_rfl) (fun _ => by kernel_rfl) (R := RVl w9 (.int .i64 ((szP (b.drop p) : Nat) : Int))) (wpiece w9 ha13 ht (by omega)) ?_
      rintro _ w14 ⟨rfl, hb15⟩
      replace hB := hB.go hb15
      replace h1 := h1.go hb15
      replace ht := ht.go hb15
      replace ho11 := ho11.go hb15
      replace ha13 := ha13.go hb15
      refine rw_p 14 (.int .i64 ((p + (szP (b.drop p)) : Nat) : Int)) (fun _ => by kernel_rfl) (fun _ => ol_conv (v := .int .i64 (IntKind.i64.wrap (((p : Nat) : Int) + ((szP (b.drop p) : Nat) : Int)))) (by kernel_rfl) (congrArg (Value.int .i64) (show IntKind.i64.wrap (((p : Nat) : Int) + ((szP (b.drop p) : Nat) : Int)) = ((p + (szP (b.drop p)) : Nat) : Int) from (wrap64 (by omega) (by omega)).trans (by omega)))) ?_
      refine rw_p 4 (.int .i64 ((p + (szP (b.drop p)) : Nat) : Int)) (fun _ => by kernel_rfl) (fun _ => by kernel_rfl) ?_
      refine rw_nil ?_
      refine nw_round (X := Nat × Value × List Nat) (E := fun q => [(0, .slice (some ⟨gb1, of2, none⟩) n c), (3, q.2.1), (4, .int .i64 ((q.1 : Nat) : Int))]) (R := fun q v => q.1 ≤ n ∧ Own 3 v w.heap.size q.2.1 (q.2.2.map intV) ∧ q.2.2 ++ mkF q.1 (b.drop q.1) = mkF 0 b ∧ Bl w v ∧ q.2.2.length ≤ q.1) (μ := fun q => n - q.1) (x := (p, u, ms)) (p + szP (b.drop p), u8, ms ++ [p]) (by exact ⟨fun _ => by kernel_rfl, ⟨fun _ => by kernel_rfl, ⟨fun _ => by kernel_rfl, trivial⟩⟩⟩) ⟨by show p + _ ≤ n; omega, by first | exact ho11 | (show Own _ _ _ _ (List.map _ (_ ++ [_])); rw [List.map_append]; exact ho11), ?_, hB, by show _ ≤ p + _; simp; omega⟩ ?_
      · show (ms ++ [p]) ++ mkF (p + szP (b.drop p)) (b.drop (p + szP (b.drop p))) = mkF 0 b
        rw [← hm, mk_step (b := b) (p := p) (by omega)]
        have dd := eq_of_beq hq4
        rw [if_pos dd, List.append_assoc]
      · show n - (p + szP (b.drop p)) < n - p; omega
    | false =>
      have dhq4 := ne_of_beq_false hq4
      refine cw_cond_f (fun _ => by kernel_rfl) ?_
      refine cw_skip ?_
      refine nw_block ?_
      refine nw_then ?_
      refine cw_region ?_
      refine rw_p 9 (.int .i64 ((p : Nat) : Int)) (fun _ => by kernel_rfl) (fun _ => by kernel_rfl) ?_
      refine rw_p 10 (.slice (some ⟨gb1, of2, none⟩) n c) (fun _ => by kernel_rfl) (fun _ => by kernel_rfl) ?_
      refine rw_p 11 (.int .i64 ((p : Nat) : Int)) (fun _ => by kernel_rfl) (fun _ => by kernel_rfl) ?_
      have ha16 := h1.from (k := p) (by omega)
      refine rw_p 12 (.slice (cutA (some ⟨gb1, of2, none⟩) p c) (n - p) (c - p)) (fun _ => by kernel_rfl) (fun _ => ol_from _ _ (some ⟨gb1, of2, none⟩) n c p rfl (by kernel_rfl) (by kernel_rfl) (by omega) h1.cap) ?_
      refine rw_call 13 15 #[.slice (cutA (some ⟨gb1, of2, none⟩) p c) (n - p) (c - p)] (fun _ => by kernel_rfl) (fun _ => by kernel_rfl) (R := RVl wl (.int .i64 ((szP (b.drop p) : Nat) : Int))) (wpiece wl ha16 ht (by omega)) ?_
      rintro _ w17 ⟨rfl, hb18⟩
      replace hB := hB.go hb18
      replace h1 := h1.go hb18
      replace ht := ht.go hb18
      replace ho := ho.go hb18
      replace hc3 := cell_go hc3 hb18
      replace ha16 := ha16.go hb18
      refine rw_p 14 (.int .i64 ((p + (szP (b.drop p)) : Nat) : Int)) (fun _ => by kernel_rfl) (fun _ => ol_conv (v := .int .i64 (IntKind.i64.wrap (((p : Nat) : Int) + ((szP (b.drop p) : Nat) : Int)))) (by kernel_rfl) (congrArg (Value.int .i64) (show IntKind.i64.wrap (((p : Nat) : Int) + ((szP (b.drop p) : Nat) : Int)) = ((p + (szP (b.drop p)) : Nat) : Int) from (wrap64 (by omega) (by omega)).trans (by omega)))) ?_
      refine rw_p 4 (.int .i64 ((p + (szP (b.drop p)) : Nat) : Int)) (fun _ => by kernel_rfl) (fun _ => by kernel_rfl) ?_
      refine rw_nil ?_
      refine nw_round (X := Nat × Value × List Nat) (E := fun q => [(0, .slice (some ⟨gb1, of2, none⟩) n c), (3, q.2.1), (4, .int .i64 ((q.1 : Nat) : Int))]) (R := fun q v => q.1 ≤ n ∧ Own 3 v w.heap.size q.2.1 (q.2.2.map intV) ∧ q.2.2 ++ mkF q.1 (b.drop q.1) = mkF 0 b ∧ Bl w v ∧ q.2.2.length ≤ q.1) (μ := fun q => n - q.1) (x := (p, u, ms)) (p + szP (b.drop p), u, ms) (by exact ⟨fun _ => by kernel_rfl, ⟨fun _ => by kernel_rfl, ⟨fun _ => by kernel_rfl, trivial⟩⟩⟩) ⟨by show p + _ ≤ n; omega, by first | exact ho | (show Own _ _ _ _ (List.map _ (_ ++ [_])); rw [List.map_append]; exact ho), ?_, hB, by show _ ≤ p + _; simp; omega⟩ ?_
      · show ms ++ mkF (p + szP (b.drop p)) (b.drop (p + szP (b.drop p))) = mkF 0 b
        rw [← hm, mk_step (b := b) (p := p) (by omega)]
        have dd := ne_of_beq_false hq4
        rw [if_neg dd, List.nil_append]
      · show n - (p + szP (b.drop p)) < n - p; omega
  · skip
    refine cw_seq ?_
    refine cw_seq ?_
    refine cw_region ?_
    refine rw_p 5 (.int .i64 ((p : Nat) : Int)) (fun _ => by kernel_rfl) (fun _ => by kernel_rfl) ?_
    refine rw_p 6 (.slice a n c) (fun _ => by kernel_rfl) (fun _ => by kernel_rfl) ?_
    refine rw_p 7 (.int .i64 ((n : Nat) : Int)) (fun _ => by kernel_rfl) (fun _ => by kernel_rfl) ?_
    refine rw_p 8 (.bool false) (fun _ => by kernel_rfl) (fun _ => ol_conv (v := .bool (decide (((p : Nat) : Int) < ((n : Nat) : Int)))) (by kernel_rfl) (congrArg Value.bool (decide_eq_false (by omega)))) ?_
    refine rw_nil ?_
    refine nw_then ?_
    refine cw_cond_f (fun _ => by kernel_rfl) ?_
    refine cw_exit ?_
    refine nw_exit_then ?_
    refine nw_exit_then ?_
    refine nw_exit_here ?_
    refine nw_then ?_
    refine cw_seq ?_
    refine cw_region ?_
    refine rw_p 24 (u) (fun _ => by kernel_rfl) (fun _ => by kernel_rfl) ?_
    refine rw_p 2 (u) (fun _ => by kernel_rfl) (fun _ => by kernel_rfl) ?_
    refine rw_nil ?_
    refine nw_then ?_
    refine cw_ret ?_
    refine nw_ret_body (u) (fun _ => by kernel_rfl) ?_
    refine ⟨_, rfl, ?_, hB⟩
    rw [show b.drop p = [] from List.drop_of_length_le (by omega), mkF_nil, List.append_nil] at hm
    rw [← hm]; exact ho
set_option maxHeartbeats 1000000 in
theorem wprt_long {a : Option Addr} {n c : Nat} {b : List Int} (w : World) (h : Ag w a n c b) (ht : Tb w) (hn : 256 < n) : Calls Tryd.prog 9 #[.slice a n c] w fun e w' => ∃ v, e = .returned v ∧ RVl w (.tuple #[.string (strOfNums (prP b).1), .int .i64 (prP b).2]) v w' := by
  have ht0 := ht
  have hl := h.l
  have hB : Bl w w := Bl.refl w
  refine cw_enter Tryd.func9 rfl 26 rfl ?_
  show CW _ _ _ _ _ _ _ [(0, .slice a n c)] _
  refine cw_seq ?_
  refine cw_region ?_
  refine rw_p 2 (.string (strOfNums ([]))) (fun _ => by kernel_rfl) (fun _ => by kernel_rfl) ?_
  refine rw_p 3 (.int .i64 0) (fun _ => by kernel_rfl) (fun _ => by kernel_rfl) ?_
  refine rw_nil ?_
  refine nw_then ?_
  refine cw_seq ?_
  refine cw_seq ?_
  refine cw_region ?_
  refine rw_p 6 (.slice a n c) (fun _ => by kernel_rfl) (fun _ => by kernel_rfl) ?_
  refine rw_p 7 (.int .i64 ((n : Nat) : Int)) (fun _ => by kernel_rfl) (fun _ => by kernel_rfl) ?_
  refine rw_p 8 (.bool true) (fun _ => by kernel_rfl) (fun _ => ol_conv (v := .bool (decide (((n : Nat) : Int) > (256 : Int)))) (by kernel_rfl) (congrArg Value.bool (decide_eq_true (by omega)))) ?_
  refine rw_nil ?_
  refine nw_then ?_
  refine cw_cond_t (fun _ => by kernel_rfl) ?_
  refine cw_seq ?_
  refine cw_region ?_
  refine rw_p 2 (.string (strOfNums ([]))) (fun _ => by kernel_rfl) (fun _ => by kernel_rfl) ?_
  refine rw_p 3 (.int .i64 142) (fun _ => by kernel_rfl) (fun _ => by kernel_rfl) ?_
  refine rw_nil ?_
  refine nw_then ?_
  refine cw_ret ?_
  refine nw_ret_then ?_
  rw [pr_long (by omega)]
  refine nw_ret_body (.tuple #[.string (strOfNums ([])), .int .i64 142]) (fun _ => by kernel_rfl) ?_
  exact ⟨_, rfl, rfl, hB⟩
set_option maxHeartbeats 1000000 in
theorem wprt_ok {a : Option Addr} {n c : Nat} {b : List Int} (w : World) (h : Ag w a n c b) (ht : Tb w) (hn : ¬ 256 < n) : Calls Tryd.prog 9 #[.slice a n c] w fun e w' => ∃ v, e = .returned v ∧ RVl w (.tuple #[.string (strOfNums (prP b).1), .int .i64 (prP b).2]) v w' := by
  have ht0 := ht
  have hl := h.l
  have hB : Bl w w := Bl.refl w
  refine cw_enter Tryd.func9 rfl 26 rfl ?_
  show CW _ _ _ _ _ _ _ [(0, .slice a n c)] _
  refine cw_seq ?_
  refine cw_region ?_
  refine rw_p 2 (.string (strOfNums ([]))) (fun _ => by kernel_rfl) (fun _ => by kernel_rfl) ?_
  refine rw_p 3 (.int .i64 0) (fun _ => by kernel_rfl) (fun _ => by kernel_rfl) ?_
  refine rw_nil ?_
  refine nw_then ?_
  refine cw_seq ?_
  refine cw_seq ?_
  refine cw_region ?_
  refine rw_p 6 (.slice a n c) (fun _ => by kernel_rfl) (fun _ => by kernel_rfl) ?_
  refine rw_p 7 (.int .i64 ((n : Nat) : Int)) (fun _ => by kernel_rfl) (fun _ => by kernel_rfl) ?_
  refine rw_p 8 (.bool false) (fun _ => by kernel_rfl) (fun _ => ol_conv (v := .bool (decide (((n : Nat) : Int) > (256 : Int)))) (by kernel_rfl) (congrArg Value.bool (decide_eq_false (by omega)))) ?_
  refine rw_nil ?_
  refine nw_then ?_
  refine cw_cond_f (fun _ => by kernel_rfl) ?_
  refine cw_skip ?_
  refine nw_then ?_
  refine cw_seq ?_
  refine cw_region ?_
  refine rw_p 4 (.slice none 0 0) (fun _ => by kernel_rfl) (fun _ => by kernel_rfl) ?_
  refine rw_nil ?_
  refine nw_then ?_
  refine cw_seq ?_
  refine cw_block ?_
  refine cw_loop (X := Option Addr × Nat × Nat × List Int × Value × List (List Int)) (fun q => [(0, .slice q.1 q.2.1 q.2.2.1), (4, q.2.2.2.2.1)]) (fun q v => Ag w q.1 q.2.1 q.2.2.1 q.2.2.2.1 ∧ Own 9 v w.heap.size q.2.2.2.2.1 (q.2.2.2.2.2.map strV) ∧ q.2.2.2.2.2 ++ (pcF q.2.2.2.1).map wr = (pcF b).map wr ∧ q.2.2.2.2.2.length + q.2.1 ≤ 256 ∧ (∀ x ∈ q.2.2.2.2.2, x.length ≤ 60) ∧ Bl w v) (fun q => q.2.1) (a, n, c, b, .slice none 0 0, []) (by exact ⟨fun _ => by kernel_rfl, ⟨fun _ => by kernel_rfl, trivial⟩⟩) ⟨h, own_nil _ _ _, rfl, by simp; omega, fun x hx => absurd hx List.not_mem_nil, hB⟩ ?_
  rintro ⟨a1, n1, c1, b1, u, L⟩ wl ⟨hw1, ho, hm, hln, hL, hB⟩
  simp only at hw1 ho hm hln hL
  show CW _ _ _ _ _ _ _ [(0, .slice a1 n1 c1), (4, u)] _
  have h1 := hw1.go hB
  have ht := ht0.go hB
  have hl1 := hw1.l
  by_cases hlt : 0 < n1
  · skip
    have hs1 := szP_pos b1
    have hs2 := szP_le (l := b1) (by intro e; rw [e] at hl1; simp at hl1; omega)
    have hs9 := szP_9 b1
    have hwg := wr_good (b := b1.take (szP b1)) (byt_take hw1.b _) (by rw [List.length_take]; omega)
    refine cw_seq ?_
    refine cw_seq ?_
    refine cw_region ?_
    refine rw_p 9 (.slice a1 n1 c1) (fun _ => by kernel_rfl) (fun _ => by kernel_rfl) ?_
    refine rw_p 10 (.int .i64 ((n1 : Nat) : Int)) (fun _ => by kernel_rfl) (fun _ => by kernel_rfl) ?_
    refine rw_p 11 (.bool true) (fun _ => by kernel_rfl) (fun _ => ol_conv (v := .bool (decide (((n1 : Nat) : Int) > (0 : Int)))) (by kernel_rfl) (congrArg Value.bool (decide_eq_true (by omega)))) ?_
    refine rw_nil ?_
    refine nw_then ?_
    refine cw_cond_t (fun _ => by kernel_rfl) ?_
    refine cw_skip ?_
    refine nw_then ?_
    refine cw_block ?_
    refine cw_seq ?_
    refine cw_region ?_
    refine rw_p 12 (.slice a1 n1 c1) (fun _ => by kernel_rfl) (fun _ => by kernel_rfl) ?_
    refine rw_call 13 15 #[.slice a1 n1 c1] (fun _ => by kernel_rfl) (fun _ => by kernel_rfl) (R := RVl wl (.int .i64 ((szP b1 : Nat) : Int))) (wpiece wl h1 ht (by omega)) ?_
    rintro _ w1 ⟨rfl, hb2⟩
    replace hB := hB.go hb2
    replace h1 := h1.go hb2
    replace ht := ht.go hb2
    replace ho := ho.go hb2
    refine rw_p 5 (.int .i64 ((szP b1 : Nat) : Int)) (fun _ => by kernel_rfl) (fun _ => by kernel_rfl) ?_
    refine rw_nil ?_
    refine nw_then ?_
    refine cw_seq ?_
    refine cw_region ?_
    refine rw_p 14 (u) (fun _ => by kernel_rfl) (fun _ => by kernel_rfl) ?_
    refine rw_p 15 (.slice a1 n1 c1) (fun _ => by kernel_rfl) (fun _ => by kernel_rfl) ?_
    refine rw_p 16 (.int .i64 ((szP b1 : Nat) : Int)) (fun _ => by kernel_rfl) (fun _ => by kernel_rfl) ?_
    have ha3 := h1.to (k := szP b1) (by omega)
    refine rw_p 17 (.slice (cutA a1 0 c1) (szP b1) c1) (fun _ => by kernel_rfl) (fun _ => ol_to _ _ a1 n1 c1 (szP b1) rfl (by kernel_rfl) (by kernel_rfl) (by have := h1.cap; omega)) ?_
    refine rw_call 18 16 #[.slice (cutA a1 0 c1) (szP b1) c1] (fun _ => by kernel_rfl) (fun _ => by kernel_rfl) (R := RVl w1 (.string (strOfNums (wr (b1.take (szP b1)))))) (wwritten w1 ha3 ht (by omega) (by omega)) ?_
    rintro _ w4 ⟨rfl, hb5⟩
    replace hB := hB.go hb5
    replace h1 := h1.go hb5
    replace ht := ht.go hb5
    replace ho := ho.go hb5
    replace ha3 := ha3.go hb5
    refine rw_newS 19 #[.string (strOfNums (wr (b1.take (szP b1))))] 9 1 (fun _ => by kernel_rfl) (fun _ => by kernel_rfl) ?_
    intro w6 g7 hn8
    obtain ⟨u9, w10, hr11, ho12, hb13⟩ := app_one (t := 47) (e := 9) (bytes := 16) (z := .string ⟨#[]⟩) Tryd.underlying47 (by kernel_rfl) rfl ho hn8 rfl (by rw [List.length_map]; omega) (by unfold maxLen; rw [List.length_map]; omega) hB.size
    refine rw_v 20 u9 (fun _ => by kernel_rfl) (fun _ => ol_app1 hr11 _ _ rfl (by kernel_rfl) (by kernel_rfl)) ?_
    replace hB : Bl w w10 := Below.trans (hB.go hn8.below) hb13
    replace h1 := hw1.go hB
    replace ht := ht0.go hB
    refine rw_p 4 (u9) (fun _ => by kernel_rfl) (fun _ => by kernel_rfl) ?_
    refine rw_nil ?_
    refine nw_then ?_
    refine cw_region ?_
    refine rw_p 21 (.slice a1 n1 c1) (fun _ => by kernel_rfl) (fun _ => by kernel_rfl) ?_
    refine rw_p 22 (.int .i64 ((szP b1 : Nat) : Int)) (fun _ => by kernel_rfl) (fun _ => by kernel_rfl) ?_
    have ha14 := h1.from (k := szP b1) (by omega)
    refine rw_p 23 (.slice (cutA a1 (szP b1) c1) (n1 - (szP b1)) (c1 - (szP b1))) (fun _ => by kernel_rfl) (fun _ => ol_from _ _ a1 n1 c1 (szP b1) rfl (by kernel_rfl) (by kernel_rfl) (by omega) h1.cap) ?_
    refine rw_p 0 (.slice (cutA a1 (szP b1) c1) (n1 - (szP b1)) (c1 - (szP b1))) (fun _ => by kernel_rfl) (fun _ => by kernel_rfl) ?_
    refine rw_nil ?_
    refine nw_block ?_
    refine nw_round (X := Option Addr × Nat × Nat × List Int × Value × List (List Int)) (E := fun q => [(0, .slice q.1 q.2.1 q.2.2.1), (4, q.2.2.2.2.1)]) (R := fun q v => Ag w q.1 q.2.1 q.2.2.1 q.2.2.2.1 ∧ Own 9 v w.heap.size q.2.2.2.2.1 (q.2.2.2.2.2.map strV) ∧ q.2.2.2.2.2 ++ (pcF q.2.2.2.1).map wr = (pcF b).map wr ∧ q.2.2.2.2.2.length + q.2.1 ≤ 256 ∧ (∀ x ∈ q.2.2.2.2.2, x.length ≤ 60) ∧ Bl w v) (μ := fun q => q.2.1) (x := (a1, n1, c1, b1, u, L)) (cutA a1 (szP b1) c1, n1 - szP b1, c1 - szP b1, b1.drop (szP b1), u9, L ++ [wr (b1.take (szP b1))]) (by exact ⟨fun _ => by kernel_rfl, ⟨fun _ => by kernel_rfl, trivial⟩⟩) ⟨hw1.from (by omega), by first | exact ho12 | (show Own _ _ _ _ (List.map _ (_ ++ [_])); rw [List.map_append]; exact ho12), ?_, by simp; omega, ?_, hB⟩ ?_
    · show (L ++ [wr (b1.take (szP b1))]) ++ (pcF (b1.drop (szP b1))).map wr = _
      rw [← hm, pc_step (b := b1) (by omega), List.map_cons, List.append_assoc]; rfl
    · intro x hx
      rcases List.mem_append.1 hx with hx | hx
      · exact hL x hx
      · rw [List.mem_singleton.1 hx]; exact hwg.2
    · show n1 - szP b1 < n1; omega
  · skip
    refine cw_seq ?_
    refine cw_seq ?_
    refine cw_region ?_
    refine rw_p 9 (.slice a1 n1 c1) (fun _ => by kernel_rfl) (fun _ => by kernel_rfl) ?_
    refine rw_p 10 (.int .i64 ((n1 : Nat) : Int)) (fun _ => by kernel_rfl) (fun _ => by kernel_rfl) ?_
    refine rw_p 11 (.bool false) (fun _ => by kernel_rfl) (fun _ => ol_conv (v := .bool (decide (((n1 : Nat) : Int) > (0 : Int)))) (by kernel_rfl) (congrArg Value.bool (decide_eq_false (by omega)))) ?_
    refine rw_nil ?_
    refine nw_then ?_
    refine cw_cond_f (fun _ => by kernel_rfl) ?_
    refine cw_exit ?_
    refine nw_exit_then ?_
    refine nw_exit_then ?_
    refine nw_exit_here ?_
    refine nw_then ?_
    refine cw_seq ?_
    refine cw_region ?_
    refine rw_p 24 (u) (fun _ => by kernel_rfl) (fun _ => by kernel_rfl) ?_
    refine rw_call 25 17 #[u, .string (strOfNums ([32]))] (fun _ => by kernel_rfl) (fun _ => by kernel_rfl) (R := RVl wl (.string (strOfNums (jnP L)))) (wjoin ho hL (by omega)) ?_
    rintro _ w15 ⟨rfl, hb16⟩
    replace hB := hB.go hb16
    replace h1 := h1.go hb16
    replace ht := ht.go hb16
    replace ho := ho.go hb16
    refine rw_p 2 (.string (strOfNums (jnP L))) (fun _ => by kernel_rfl) (fun _ => by kernel_rfl) ?_
    refine rw_p 3 (.int .i64 0) (fun _ => by kernel_rfl) (fun _ => by kernel_rfl) ?_
    refine rw_nil ?_
    refine nw_then ?_
    refine cw_ret ?_
    have hb0 : b1 = [] := List.eq_nil_of_length_eq_zero (by omega)
    rw [hb0, pcF_nil, List.map_nil, List.append_nil] at hm
    rw [pr_of (by omega), ← hm]
    refine nw_ret_body (.tuple #[.string (strOfNums (jnP L)), .int .i64 0]) (fun _ => by kernel_rfl) ?_
    exact ⟨_, rfl, rfl, hB⟩
theorem wprt {a : Option Addr} {n c : Nat} {b : List Int} (w : World) (h : Ag w a n c b) (ht : Tb w) : Calls Tryd.prog 9 #[.slice a n c] w fun e w' => ∃ v, e = .returned v ∧ RVl w (.tuple #[.string (strOfNums (prP b).1), .int .i64 (prP b).2]) v w' := by
  by_cases hn : 256 < n
  · exact wprt_long w h ht hn
  · exact wprt_ok w h ht hn
end Go.Proofs.YtbjjboicfghldabDoor

/- The statement OpcodeMarks, as a call. -/
import Derived.Test.YtbjjboicfghldaaDoorG31
namespace Go.Proofs.YtbjjboicfghldaaDoor
open Go.RowKit
open Wo
set_option linter.unusedVariables false
set_option maxRecDepth 100000
theorem mk_all {b : List Int} : ∀ (n p : Nat), b.length - p ≤ n → (∀ m ∈ mkF p (b.drop p), p ≤ m ∧ m < b.length ∧ b.getD m 0 = 66) ∧ (mkF p (b.drop p)).Pairwise (· < ·) := by
  intro n
  induction n with
  | zero =>
    intro p h
    rw [List.drop_of_length_le (by omega), mkF_nil]
    exact ⟨fun m hm => absurd hm List.not_mem_nil, List.Pairwise.nil⟩
  | succ n ih =>
    intro p h
    by_cases hp : p < b.length
    · obtain ⟨h1, h2⟩ := sz_drop hp
      obtain ⟨k1, k2⟩ := ih (p + szP (b.drop p)) (by omega)
      rw [mk_step hp]
      split
      · rename_i h66
        refine ⟨fun m hm => ?_, ?_⟩
        · rcases List.mem_append.1 hm with hm | hm
          · rw [List.mem_singleton.1 hm]; exact ⟨Nat.le_refl _, hp, h66⟩
          · have := k1 m hm; exact ⟨by omega, this.2⟩
        · exact List.pairwise_cons.2 ⟨fun m hm => by have := k1 m hm; omega, k2⟩
      · exact ⟨fun m hm => by have := k1 m hm; exact ⟨by omega, this.2⟩, k2⟩
    · rw [List.drop_of_length_le (by omega), mkF_nil]
      exact ⟨fun m hm => absurd hm List.not_mem_nil, List.Pairwise.nil⟩
theorem mk_at {b : List Int} {i : Nat} (hi : i < (mkF 0 b).length) : (mkF 0 b).getD i 0 < b.length ∧ b.getD ((mkF 0 b).getD i 0) 0 = 66 ∧ (0 < i → (mkF 0 b).getD (i - 1) 0 < (mkF 0 b).getD i 0) := by
  obtain ⟨h1, h2⟩ := mk_all (b := b) b.length 0 (by omega)
  rw [List.drop_zero] at h1 h2
  have e : ∀ j, (h : j < (mkF 0 b).length) → (mkF 0 b).getD j 0 = (mkF 0 b)[j] := fun j h => by rw [List.getD, List.getElem?_eq_getElem h]; rfl
  rw [e i hi]
  obtain ⟨_, k1, k2⟩ := h1 _ (List.getElem_mem hi)
  refine ⟨k1, k2, fun h0 => ?_⟩
  rw [e (i - 1) (by omega)]
  exact List.pairwise_iff_getElem.1 h2 (i - 1) i (by omega) hi (by omega)
theorem mk_len (b : List Int) : (mkF 0 b).length ≤ b.length := by
  have key : ∀ (n p : Nat), b.length - p ≤ n → (mkF p (b.drop p)).length ≤ b.length - p := by
    intro n
    induction n with
    | zero => intro p h; rw [List.drop_of_length_le (by omega), mkF_nil]; exact Nat.zero_le _
    | succ n ih =>
      intro p h
      by_cases hp : p < b.length
      · obtain ⟨h1, h2⟩ := sz_drop hp
        have := ih (p + szP (b.drop p)) (by omega)
        rw [mk_step hp, List.length_append]
        split <;> simp <;> omega
      · rw [List.drop_of_length_le (by omega), mkF_nil]; exact Nat.zero_le _
  have := key b.length 0 (by omega)
  rw [List.drop_zero] at this
  omega
set_option maxHeartbeats 2000000 in
theorem marks_any {a : Option Addr} {n c : Nat} {b : List Int} (w : World) (ht : Tb w) (h : Ag w a n c b) (hn : n ≤ 1048576) : Calls Tryd.prog 4 #[.slice a n c] w (Law14 w) := by
  have ht0 := ht
  have hB : Bl w w := Bl.refl w
  refine cw_enter Tryd.func4 rfl 51 rfl ?_
  show CW _ _ _ _ _ _ _ [(0, .slice a n c)] _
  have hlb := h.l
  obtain ⟨ms, hms⟩ : ∃ ms, mkF 0 b = ms := ⟨_, rfl⟩
  have hat := fun i => mk_at (b := b) (i := i)
  rw [hms] at hat
  refine cw_seq ?_
  refine cw_region ?_
  refine rw_p 2 (.bool false) (fun _ => by kernel_rfl) (fun _ => by kernel_rfl) ?_
  refine rw_nil ?_
  refine nw_then ?_
  refine cw_seq ?_
  refine cw_region ?_
  refine rw_p 6 (.slice a n c) (fun _ => by kernel_rfl) (fun _ => by kernel_rfl) ?_
  refine rw_call 7 12 #[.slice a n c] (fun _ => by kernel_rfl) (fun _ => by kernel_rfl) (R := RIl w ms) (by have := wmarks w h ht hn; rw [hms] at this; exact this) ?_
  rintro u1 w2 ⟨ho3, hb4⟩
  replace hB := hB.go hb4
  replace ht := ht.go hb4
  replace h := h.go hb4
  have hiho3 : IsL w2 u1 ms := ho3.isl
  have hi0 := hiho3
  obtain ⟨al, cl, rfl, hcl⟩ := hi0
  have hml : ms.length ≤ n := by rw [← hms, ← hlb]; exact mk_len b
  refine rw_p 3 (.slice al ms.length cl) (fun _ => by kernel_rfl) (fun _ => by kernel_rfl) ?_
  refine rw_nil ?_
  refine nw_then ?_
  refine cw_seq ?_
  refine cw_seq ?_
  refine cw_region ?_
  refine rw_p 8 (.slice al ms.length cl) (fun _ => by kernel_rfl) (fun _ => by kernel_rfl) ?_
  refine rw_p 9 (.int .i64 ((ms.length : Nat) : Int)) (fun _ => by kernel_rfl) (fun _ => by kernel_rfl) ?_
  refine rw_p 10 (.int .i64 0) (fun _ => by kernel_rfl) (fun _ => by kernel_rfl) ?_
  refine rw_nil ?_
  refine nw_then ?_
  refine cw_block ?_
  obtain ⟨WM, hWM⟩ : ∃ W9, W9 = w2 := ⟨_, rfl⟩
  rw [← hWM]
  rw [← hWM] at hB
  rw [← hWM] at ht
  rw [← hWM] at h
  rw [← hWM] at hiho3
  rw [← hWM] at hcl
  refine cw_loop (X := Nat) (fun q => [(0, .slice a n c), (3, .slice al ms.length cl), (8, .slice al ms.length cl), (9, .int .i64 ((ms.length : Nat) : Int)), (10, .int .i64 ((q : Nat) : Int))]) (fun q v => q ≤ ms.length ∧ v = WM) (fun q => ms.length - q) 0 (by exact ⟨fun _ => by kernel_rfl, ⟨fun _ => by kernel_rfl, ⟨fun _ => by kernel_rfl, ⟨fun _ => by kernel_rfl, ⟨fun _ => by kernel_rfl, trivial⟩⟩⟩⟩⟩) ⟨by omega, rfl⟩ ?_
  rintro i wl ⟨hi, rfl⟩
  by_cases hlt : i < ms.length
  · skip
    obtain ⟨hm1, hm2, hm3⟩ := hat i hlt
    obtain ⟨gl, ol, rfl, hcc⟩ := hcl (by omega)
    have hc1 := hcc i hlt
    obtain ⟨m, hm⟩ : ∃ m, ms.getD i 0 = m := ⟨_, rfl⟩
    rw [hm] at hm1 hm2 hm3 hc1
    obtain ⟨gb5, of6, rfl, hc7⟩ := h.at0 (k := m) (by omega)
    rw [hm2] at hc7
    by_cases hi0 : 0 < i
    · skip
      have hc2 := hcc (i - 1) (by omega)
      replace hm3 := hm3 hi0
      obtain ⟨m2, hm22⟩ : ∃ m2, ms.getD (i - 1) 0 = m2 := ⟨_, rfl⟩
      rw [hm22] at hm3 hc2
      refine cw_seq ?_
      refine cw_region ?_
      refine rw_p 11 (.bool true) (fun _ => by kernel_rfl) (fun _ => ol_conv (v := .bool (decide (((i : Nat) : Int) < ((ms.length : Nat) : Int)))) (by kernel_rfl) (congrArg Value.bool (decide_eq_true (by omega)))) ?_
      refine rw_nil ?_
      refine nw_then ?_
      refine cw_seq ?_
      refine cw_cond_t (fun _ => by kernel_rfl) ?_
      refine cw_skip ?_
      refine nw_then ?_
      refine cw_seq ?_
      refine cw_block ?_
      refine cw_seq ?_
      refine cw_region ?_
      refine rw_p 12 (.int .i64 ((i : Nat) : Int)) (fun _ => by kernel_rfl) (fun _ => by kernel_rfl) ?_
      refine rw_p 13 (.pointer (some ⟨gl, ol + i * 1, none⟩)) (fun _ => by kernel_rfl) (fun _ => ol_index 33 _ _ gl ol i ms.length cl 1 3 rfl (by kernel_rfl) (by kernel_rfl) (by omega) Tryd.underlying33 (by kernel_rfl)) ?_
      refine rw_p 14 (.int .i64 ((m : Nat) : Int)) (fun _ => by kernel_rfl) (fun _ => ol_cell 3 _ ⟨gl, ol + i * 1, none⟩ _ _ rfl (by kernel_rfl) hc1 Tryd.underlying3 rfl) ?_
      refine rw_p 4 (.int .i64 ((i : Nat) : Int)) (fun _ => by kernel_rfl) (fun _ => by kernel_rfl) ?_
      refine rw_p 5 (.int .i64 ((m : Nat) : Int)) (fun _ => by kernel_rfl) (fun _ => by kernel_rfl) ?_
      refine rw_nil ?_
      refine nw_then ?_
      refine cw_seq ?_
      refine cw_region ?_
      refine rw_p 15 (.int .i64 ((m : Nat) : Int)) (fun _ => by kernel_rfl) (fun _ => by kernel_rfl) ?_
      refine rw_p 16 (.bool false) (fun _ => by kernel_rfl) (fun _ => ol_conv (v := .bool (decide (((m : Nat) : Int) < (0 : Int)))) (by kernel_rfl) (congrArg Value.bool (decide_eq_false (by omega)))) ?_
      refine rw_p 17 (.bool false) (fun _ => by kernel_rfl) (fun _ => by kernel_rfl) ?_
      refine rw_p 18 (.int .i64 ((m : Nat) : Int)) (fun _ => by kernel_rfl) (fun _ => by kernel_rfl) ?_
      refine rw_p 19 (.slice (some ⟨gb5, of6, none⟩) n c) (fun _ => by kernel_rfl) (fun _ => by kernel_rfl) ?_
      refine rw_p 20 (.int .i64 ((n : Nat) : Int)) (fun _ => by kernel_rfl) (fun _ => by kernel_rfl) ?_
      refine rw_p 21 (.bool false) (fun _ => by kernel_rfl) (fun _ => ol_conv (v := .bool (decide (((m : Nat) : Int) ≥ ((n : Nat) : Int)))) (by kernel_rfl) (congrArg Value.bool (decide_eq_false (by omega)))) ?_
      refine rw_p 22 (.bool false) (fun _ => by kernel_rfl) (fun _ => by kernel_rfl) ?_
      refine rw_p 23 (.bool false) (fun _ => by kernel_rfl) (fun _ => by kernel_rfl) ?_
      refine rw_p 24 (.slice (some ⟨gb5, of6, none⟩) n c) (fun _ => by kernel_rfl) (fun _ => by kernel_rfl) ?_
      refine rw_p 25 (.int .i64 ((m : Nat) : Int)) (fun _ => by kernel_rfl) (fun _ => by kernel_rfl) ?_
      refine rw_p 26 (.pointer (some ⟨gb5, of6 + m * 1, none⟩)) (fun _ => by kernel_rfl) (fun _ => ol_index 32 _ _ gb5 of6 m n c 1 5 rfl (by kernel_rfl) (by kernel_rfl) (by omega) Tryd.underlying32 (by kernel_rfl)) ?_
      refine rw_p 27 (.int .u8 66) (fun _ => by kernel_rfl) (fun _ => ol_cell 5 _ ⟨gb5, of6 + m * 1, none⟩ _ _ rfl (by kernel_rfl) hc7 Tryd.underlying5 rfl) ?_
      refine rw_p 28 (.bool false) (fun _ => by kernel_rfl) (fun _ => by kernel_rfl) ?_
      refine rw_p 29 (.bool false) (fun _ => by kernel_rfl) (fun _ => by kernel_rfl) ?_
      refine rw_p 30 (.bool false) (fun _ => by kernel_rfl) (fun _ => by kernel_rfl) ?_
      refine rw_p 31 (.int .i64 ((i : Nat) : Int)) (fun _ => by kernel_rfl) (fun _ => by kernel_rfl) ?_
      refine rw_p 32 (.bool true) (fun _ => by kernel_rfl) (fun _ => ol_conv (v := .bool (decide (((i : Nat) : Int) > (0 : Int)))) (by kernel_rfl) (congrArg Value.bool (decide_eq_true (by omega)))) ?_
      refine rw_p 33 (.bool true) (fun _ => by kernel_rfl) (fun _ => by kernel_rfl) ?_
      refine rw_p 34 (.int .i64 ((m : Nat) : Int)) (fun _ => by kernel_rfl) (fun _ => by kernel_rfl) ?_
      refine rw_p 35 (.slice (some ⟨gl, ol, none⟩) ms.length cl) (fun _ => by kernel_rfl) (fun _ => by kernel_rfl) ?_
      refine rw_p 36 (.int .i64 ((i : Nat) : Int)) (fun _ => by kernel_rfl) (fun _ => by kernel_rfl) ?_
      refine rw_p 37 (.int .i64 ((i - 1 : Nat) : Int)) (fun _ => by kernel_rfl) (fun _ => ol_conv (v := .int .i64 (IntKind.i64.wrap (((i : Nat) : Int) - (1 : Int)))) (by kernel_rfl) (congrArg (Value.int .i64) (show IntKind.i64.wrap (((i : Nat) : Int) - (1 : Int)) = ((i - 1 : Nat) : Int) from (wrap64 (by omega) (by omega)).trans (by omega)))) ?_
      refine rw_p 38 (.pointer (some ⟨gl, ol + (i - 1) * 1, none⟩)) (fun _ => by kernel_rfl) (fun _ => ol_index 33 _ _ gl ol (i - 1) ms.length cl 1 3 rfl (by kernel_rfl) (by kernel_rfl) (by omega) Tryd.underlying33 (by kernel_rfl)) ?_
      refine rw_p 39 (.int .i64 ((m2 : Nat) : Int)) (fun _ => by kernel_rfl) (fun _ => ol_cell 3 _ ⟨gl, ol + (i - 1) * 1, none⟩ _ _ rfl (by kernel_rfl) hc2 Tryd.underlying3 rfl) ?_
      refine rw_p 40 (.bool false) (fun _ => by kernel_rfl) (fun _ => ol_conv (v := .bool (decide (((m : Nat) : Int) ≤ ((m2 : Nat) : Int)))) (by kernel_rfl) (congrArg Value.bool (decide_eq_false (by omega)))) ?_
      refine rw_p 41 (.bool false) (fun _ => by kernel_rfl) (fun _ => by kernel_rfl) ?_
      refine rw_p 42 (.bool false) (fun _ => by kernel_rfl) (fun _ => by kernel_rfl) ?_
      refine rw_nil ?_
      refine nw_then ?_
      refine cw_cond_f (fun _ => by kernel_rfl) ?_
      refine cw_skip ?_
      refine nw_block ?_
      refine nw_then ?_
      refine cw_region ?_
      refine rw_p 43 (.int .i64 ((i + 1 : Nat) : Int)) (fun _ => by kernel_rfl) (fun _ => ol_conv (v := .int .i64 (IntKind.i64.wrap (((i : Nat) : Int) + (1 : Int)))) (by kernel_rfl) (congrArg (Value.int .i64) (show IntKind.i64.wrap (((i : Nat) : Int) + (1 : Int)) = ((i + 1 : Nat) : Int) from (wrap64 (by omega) (by omega)).trans (by omega)))) ?_
      refine rw_p 10 (.int .i64 ((i + 1 : Nat) : Int)) (fun _ => by kernel_rfl) (fun _ => by kernel_rfl) ?_
      refine rw_nil ?_
      refine nw_round (X := Nat) (E := fun q => [(0, .slice (some ⟨gb5, of6, none⟩) n c), (3, .slice (some ⟨gl, ol, none⟩) ms.length cl), (8, .slice (some ⟨gl, ol, none⟩) ms.length cl), (9, .int .i64 ((ms.length : Nat) : Int)), (10, .int .i64 ((q : Nat) : Int))]) (R := fun q v => q ≤ ms.length ∧ v = wl) (μ := fun q => ms.length - q) (x := i) (i + 1) (by exact ⟨fun _ => by kernel_rfl, ⟨fun _ => by kernel_rfl, ⟨fun _ => by kernel_rfl, ⟨fun _ => by kernel_rfl, ⟨fun _ => by kernel_rfl, trivial⟩⟩⟩⟩⟩) ⟨by omega, rfl⟩ (by show ms.length - (i + 1) < ms.length - i; omega)
    · skip
      refine cw_seq ?_
      refine cw_region ?_
      refine rw_p 11 (.bool true) (fun _ => by kernel_rfl) (fun _ => ol_conv (v := .bool (decide (((i : Nat) : Int) < ((ms.length : Nat) : Int)))) (by kernel_rfl) (congrArg Value.bool (decide_eq_true (by omega)))) ?_
      refine rw_nil ?_
      refine nw_then ?_
      refine cw_seq ?_
      refine cw_cond_t (fun _ => by kernel_rfl) ?_
      refine cw_skip ?_
      refine nw_then ?_
      refine cw_seq ?_
      refine cw_block ?_
      refine cw_seq ?_
      refine cw_region ?_
      refine rw_p 12 (.int .i64 ((i : Nat) : Int)) (fun _ => by kernel_rfl) (fun _ => by kernel_rfl) ?_
      refine rw_p 13 (.pointer (some ⟨gl, ol + i * 1, none⟩)) (fun _ => by kernel_rfl) (fun _ => ol_index 33 _ _ gl ol i ms.length cl 1 3 rfl (by kernel_rfl) (by kernel_rfl) (by omega) Tryd.underlying33 (by kernel_rfl)) ?_
      refine rw_p 14 (.int .i64 ((m : Nat) : Int)) (fun _ => by kernel_rfl) (fun _ => ol_cell 3 _ ⟨gl, ol + i * 1, none⟩ _ _ rfl (by kernel_rfl) hc1 Tryd.underlying3 rfl) ?_
      refine rw_p 4 (.int .i64 ((i : Nat) : Int)) (fun _ => by kernel_rfl) (fun _ => by kernel_rfl) ?_
      refine rw_p 5 (.int .i64 ((m : Nat) : Int)) (fun _ => by kernel_rfl) (fun _ => by kernel_rfl) ?_
      refine rw_nil ?_
      refine nw_then ?_
      refine cw_seq ?_
      refine cw_region ?_
      refine rw_p 15 (.int .i64 ((m : Nat) : Int)) (fun _ => by kernel_rfl) (fun _ => by kernel_rfl) ?_
      refine rw_p 16 (.bool false) (fun _ => by kernel_rfl) (fun _ => ol_conv (v := .bool (decide (((m : Nat) : Int) < (0 : Int)))) (by kernel_rfl) (congrArg Value.bool (decide_eq_false (by omega)))) ?_
      refine rw_p 17 (.bool false) (fun _ => by kernel_rfl) (fun _ => by kernel_rfl) ?_
      refine rw_p 18 (.int .i64 ((m : Nat) : Int)) (fun _ => by kernel_rfl) (fun _ => by kernel_rfl) ?_
      refine rw_p 19 (.slice (some ⟨gb5, of6, none⟩) n c) (fun _ => by kernel_rfl) (fun _ => by kernel_rfl) ?_
      refine rw_p 20 (.int .i64 ((n : Nat) : Int)) (fun _ => by kernel_rfl) (fun _ => by kernel_rfl) ?_
      refine rw_p 21 (.bool false) (fun _ => by kernel_rfl) (fun _ => ol_conv (v := .bool (decide (((m : Nat) : Int) ≥ ((n : Nat) : Int)))) (by kernel_rfl) (congrArg Value.bool (decide_eq_false (by omega)))) ?_
      refine rw_p 22 (.bool false) (fun _ => by kernel_rfl) (fun _ => by kernel_rfl) ?_
      refine rw_p 23 (.bool false) (fun _ => by kernel_rfl) (fun _ => by kernel_rfl) ?_
      refine rw_p 24 (.slice (some ⟨gb5, of6, none⟩) n c) (fun _ => by kernel_rfl) (fun _ => by kernel_rfl) ?_
      refine rw_p 25 (.int .i64 ((m : Nat) : Int)) (fun _ => by kernel_rfl) (fun _ => by kernel_rfl) ?_
      refine rw_p 26 (.pointer (some ⟨gb5, of6 + m * 1, none⟩)) (fun _ => by kernel_rfl) (fun _ => ol_index 32 _ _ gb5 of6 m n c 1 5 rfl (by kernel_rfl) (by kernel_rfl) (by omega) Tryd.underlying32 (by kernel_rfl)) ?_
      refine rw_p 27 (.int .u8 66) (fun _ => by kernel_rfl) (fun _ => ol_cell 5 _ ⟨gb5, of6 + m * 1, none⟩ _ _ rfl (by kernel_rfl) hc7 Tryd.underlying5 rfl) ?_
      refine rw_p 28 (.bool false) (fun _ => by kernel_rfl) (fun _ => by kernel_rfl) ?_
      refine rw_p 29 (.bool false) (fun _ => by kernel_rfl) (fun _ => by kernel_rfl) ?_
      refine rw_p 30 (.bool false) (fun _ => by kernel_rfl) (fun _ => by kernel_rfl) ?_
      refine rw_p 31 (.int .i64 ((i : Nat) : Int)) (fun _ => by kernel_rfl) (fun _ => by kernel_rfl) ?_
      refine rw_p 32 (.bool false) (fun _ => by kernel_rfl) (fun _ => ol_conv (v := .bool (decide (((i : Nat) : Int) > (0 : Int)))) (by kernel_rfl) (congrArg Value.bool (decide_eq_false (by omega)))) ?_
      refine rw_p 33 (.bool false) (fun _ => by kernel_rfl) (fun _ => by kernel_rfl) ?_
      refine rw_off 34 (fun _ => by kernel_rfl) ?_
      refine rw_off 35 (fun _ => by kernel_rfl) ?_
      refine rw_off 36 (fun _ => by kernel_rfl) ?_
      refine rw_off 37 (fun _ => by kernel_rfl) ?_
      refine rw_off 38 (fun _ => by kernel_rfl) ?_
      refine rw_off 39 (fun _ => by kernel_rfl) ?_
      refine rw_off 40 (fun _ => by kernel_rfl) ?_
      refine rw_p 41 (.bool false) (fun _ => by kernel_rfl) (fun _ => by kernel_rfl) ?_
      refine rw_p 42 (.bool false) (fun _ => by kernel_rfl) (fun _ => by kernel_rfl) ?_
      refine rw_nil ?_
      refine nw_then ?_
      refine cw_cond_f (fun _ => by kernel_rfl) ?_
      refine cw_skip ?_
      refine nw_block ?_
      refine nw_then ?_
      refine cw_region ?_
      refine rw_p 43 (.int .i64 ((i + 1 : Nat) : Int)) (fun _ => by kernel_rfl) (fun _ => ol_conv (v := .int .i64 (IntKind.i64.wrap (((i : Nat) : Int) + (1 : Int)))) (by kernel_rfl) (congrArg (Value.int .i64) (show IntKind.i64.wrap (((i : Nat) : Int) + (1 : Int)) = ((i + 1 : Nat) : Int) from (wrap64 (by omega) (by omega)).trans (by omega)))) ?_
      refine rw_p 10 (.int .i64 ((i + 1 : Nat) : Int)) (fun _ => by kernel_rfl) (fun _ => by kernel_rfl) ?_
      refine rw_nil ?_
      refine nw_round (X := Nat) (E := fun q => [(0, .slice (some ⟨gb5, of6, none⟩) n c), (3, .slice (some ⟨gl, ol, none⟩) ms.length cl), (8, .slice (some ⟨gl, ol, none⟩) ms.length cl), (9, .int .i64 ((ms.length : Nat) : Int)), (10, .int .i64 ((q : Nat) : Int))]) (R := fun q v => q ≤ ms.length ∧ v = wl) (μ := fun q => ms.length - q) (x := i) (i + 1) (by exact ⟨fun _ => by kernel_rfl, ⟨fun _ => by kernel_rfl, ⟨fun _ => by kernel_rfl, ⟨fun _ => by kernel_rfl, ⟨fun _ => by kernel_rfl, trivial⟩⟩⟩⟩⟩) ⟨by omega, rfl⟩ (by show ms.length - (i + 1) < ms.length - i; omega)
  · skip
    refine cw_seq ?_
    refine cw_region ?_
    refine rw_p 11 (.bool false) (fun _ => by kernel_rfl) (fun _ => ol_conv (v := .bool (decide (((i : Nat) : Int) < ((ms.length : Nat) : Int)))) (by kernel_rfl) (congrArg Value.bool (decide_eq_false (by omega)))) ?_
    refine rw_nil ?_
    refine nw_then ?_
    refine cw_seq ?_
    refine cw_cond_f (fun _ => by kernel_rfl) ?_
    refine cw_exit ?_
    refine nw_exit_then ?_
    refine nw_exit_then ?_
    refine nw_exit_here ?_
    refine nw_then ?_
    refine cw_seq ?_
    refine cw_region ?_
    refine rw_call 44 11 #[] (fun _ => by kernel_rfl) (fun _ => by kernel_rfl) (R := RVl wl (.bool true)) (walive wl ht) ?_
    rintro _ w8 ⟨rfl, hb9⟩
    replace hB := hB.go hb9
    replace ht := ht.go hb9
    replace h := h.go hb9
    replace hiho3 := hiho3.go hb9
    refine rw_p 45 (.bool true) (fun _ => by kernel_rfl) (fun _ => by kernel_rfl) ?_
    refine rw_p 46 (.slice al ms.length cl) (fun _ => by kernel_rfl) (fun _ => by kernel_rfl) ?_
    refine rw_p 47 (.slice a n c) (fun _ => by kernel_rfl) (fun _ => by kernel_rfl) ?_
    refine rw_call 48 14 #[.slice a n c] (fun _ => by kernel_rfl) (fun _ => by kernel_rfl) (R := RIl w8 ms) (by have := rmarks w8 h hn; rw [hms] at this; exact this) ?_
    rintro u10 w11 ⟨ho12, hb13⟩
    replace hB := hB.go hb13
    replace ht := ht.go hb13
    replace h := h.go hb13
    replace hiho3 := hiho3.go hb13
    have hiho12 : IsL w11 u10 ms := ho12.isl
    refine rw_call 49 13 #[.slice al ms.length cl, u10] (fun _ => by kernel_rfl) (fun _ => by kernel_rfl) (R := RVl w11 (.bool true)) (wplaces hiho3 hiho12 (by omega)) ?_
    rintro _ w14 ⟨rfl, hb15⟩
    replace hB := hB.go hb15
    replace ht := ht.go hb15
    replace h := h.go hb15
    replace hiho3 := hiho3.go hb15
    replace hiho12 := hiho12.go hb15
    refine rw_p 50 (.bool true) (fun _ => by kernel_rfl) (fun _ => by kernel_rfl) ?_
    refine rw_p 2 (.bool true) (fun _ => by kernel_rfl) (fun _ => by kernel_rfl) ?_
    refine rw_nil ?_
    refine nw_then ?_
    refine cw_ret ?_
    refine nw_ret_body (.bool true) (fun _ => by kernel_rfl) ?_
    exact ⟨rfl, hB⟩
end Go.Proofs.YtbjjboicfghldaaDoor

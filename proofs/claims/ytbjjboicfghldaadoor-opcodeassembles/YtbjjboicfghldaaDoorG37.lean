/- What the document's Assemble answers; the statement OpcodeAssembles, as a call. -/
import Derived.Test.YtbjjboicfghldaaDoorG36
import Derived.Test.YtbjjboicfghldaaDoorG30
namespace Go.Proofs.YtbjjboicfghldaaDoor
open Go.RowKit
open Wo
set_option linter.unusedVariables false
set_option maxRecDepth 100000
set_option maxHeartbeats 4000000 in
theorem rasm {l : List Int} (hb : Byt l) (hl : l.length ≤ 9223372036854775000) (w : World) : Calls Tryd.prog 16 #[.string (strOfNums l)] w fun e w' => ∃ v, e = .returned v ∧ RAs w (asF [] l 0) v w' := by
  have hB : Bl w w := Bl.refl w
  refine cw_enter Tryd.func16 rfl 43 rfl ?_
  show CW _ _ _ _ _ _ _ [(0, .string (strOfNums l))] _
  refine cw_seq ?_
  refine cw_region ?_
  refine rw_p 2 (.slice none 0 0) (fun _ => by kernel_rfl) (fun _ => by kernel_rfl) ?_
  refine rw_p 3 (.int .i64 0) (fun _ => by kernel_rfl) (fun _ => by kernel_rfl) ?_
  refine rw_p 4 (.int .i64 0) (fun _ => by kernel_rfl) (fun _ => by kernel_rfl) ?_
  refine rw_nil ?_
  refine nw_then ?_
  refine cw_seq ?_
  refine cw_region ?_
  refine rw_p 11 (.string (strOfNums l)) (fun _ => by kernel_rfl) (fun _ => by kernel_rfl) ?_
  refine rw_p 12 (.agg #[.string (strOfNums l), .int .i64 0, .int .i64 0]) (fun _ => by kernel_rfl) (fun _ => by kernel_rfl) ?_
  refine rw_new 13 (#[.string (strOfNums l), .int .i64 0, .int .i64 0]) 57 (fun _ => by kernel_rfl) (fun _ => by kernel_rfl) ?_
  intro w1 g2 hn3
  have hzg2 : w.heap.size ≤ g2 := by have := hB.size; have := hn3.hg; omega
  replace hB := hB.go hn3.below
  have hr4 : Rw g2 w1 (#[.string (strOfNums l), .int .i64 0, .int .i64 0]) 57 := hn3.row
  refine rw_p 5 (.pointer (some ⟨g2, 0, none⟩)) (fun _ => by kernel_rfl) (fun _ => by kernel_rfl) ?_
  refine rw_nil ?_
  refine nw_then ?_
  refine cw_seq ?_
  refine cw_region ?_
  refine rw_p 6 (.slice none 0 0) (fun _ => by kernel_rfl) (fun _ => by kernel_rfl) ?_
  refine rw_nil ?_
  refine nw_then ?_
  refine cw_block ?_
  refine cw_loop (X := Value × List Int × Nat × Nat) (fun q => [(5, .pointer (some ⟨g2, 0, none⟩)), (6, q.1)]) (fun q v => OwnB v (g2 + 1) q.1 q.2.1 ∧ Byt q.2.1 ∧ q.2.1.length ≤ 256 ∧ Rw g2 v (rdC l q.2.2.1 q.2.2.2) 57 ∧ q.2.2.2 ≤ l.length ∧ asF q.2.1 (l.drop q.2.2.2) q.2.2.2 = asF [] l 0 ∧ Bl w v) (fun q => l.length - q.2.2.2) (.slice none 0 0, [], 0, 0) (by exact ⟨fun _ => by kernel_rfl, ⟨fun _ => by kernel_rfl, trivial⟩⟩) ⟨ownB_nil _ _, (fun x hx => absurd hx List.not_mem_nil), by simp, hr4, by simp, rfl, hB⟩ ?_
  rintro ⟨u, code, i, t⟩ wl ⟨ho, hbc, hlc, hr, ht, has, hB⟩
  simp only at ho hbc hlc hr ht has
  obtain ⟨a5, c5, rfl, hag5⟩ := OwnB.ag ho hbc
  obtain ⟨rest, hrest⟩ : ∃ rest, l.drop t = rest := ⟨_, rfl⟩
  rw [hrest] at has
  have hbr : Byt rest := by rw [← hrest]; exact byt_drop hb _
  have hnl := nxW_len rest
  have hrl : rest.length = l.length - t := by rw [← hrest, List.length_drop]
  have hnr : nxR rest = l.drop (t + rn rest true + (nxW rest).length) := by rw [← hrest]; exact nxR_drop
  show CW _ _ _ _ _ _ _ [(5, .pointer (some ⟨g2, 0, none⟩)), (6, .slice a5 code.length c5)] _
  refine cw_block ?_
  refine cw_seq ?_
  refine cw_region ?_
  refine rw_p 14 (.pointer (some ⟨g2, 0, none⟩)) (fun _ => by kernel_rfl) (fun _ => by kernel_rfl) ?_
  refine rw_call 15 26 #[.pointer (some ⟨g2, 0, none⟩)] (fun _ => by kernel_rfl) (fun _ => by kernel_rfl) (R := RRd g2 wl l (t + rn rest true) (t + rn rest true + (nxW rest).length) (.string (strOfNums (nxW rest)))) (by have := rnext wl hr hb ht hl; rw [hrest] at this; exact this) ?_
  rintro _ wn ⟨rfl, hrn, hkn⟩
  replace hB := hB.tou hkn hzg2
  replace ho := ho.touch hkn (by omega)
  clear hr; have hr := hrn
  refine rw_p 7 (.string (strOfNums (nxW rest))) (fun _ => by kernel_rfl) (fun _ => by kernel_rfl) ?_
  refine rw_nil ?_
  refine nw_then ?_
  refine cw_seq ?_
  refine cw_seq ?_
  refine cw_region ?_
  refine rw_p 16 (.string (strOfNums (nxW rest))) (fun _ => by kernel_rfl) (fun _ => by kernel_rfl) ?_
  refine rw_p 17 (.bool (decide (nxW rest = []))) (fun _ => by kernel_rfl) (fun _ => ol_eqS 9 _ _ _ (nxW rest) ([]) rfl (by kernel_rfl) (by kernel_rfl) (byt_nx hbr).2.1 (byt_lit (by decide))) ?_
  refine rw_nil ?_
  refine nw_then ?_
  cases hq5 : (decide (nxW rest = [])) with
  | true =>
    have dhq5 := of_decide_eq_true hq5
    refine cw_cond_t (fun _ => by kernel_rfl) ?_
    refine cw_seq ?_
    refine cw_region ?_
    refine rw_p 18 (.slice a5 code.length c5) (fun _ => by kernel_rfl) (fun _ => by kernel_rfl) ?_
    refine rw_p 2 (.slice a5 code.length c5) (fun _ => by kernel_rfl) (fun _ => by kernel_rfl) ?_
    refine rw_p 3 (.int .i64 0) (fun _ => by kernel_rfl) (fun _ => by kernel_rfl) ?_
    refine rw_p 4 (.int .i64 0) (fun _ => by kernel_rfl) (fun _ => by kernel_rfl) ?_
    refine rw_nil ?_
    refine nw_then ?_
    refine cw_ret ?_
    refine nw_ret_then ?_
    refine nw_ret_block ?_
    refine nw_ret_then ?_
    refine nw_ret_block ?_
    rw [← has, as_end dhq5]
    obtain ⟨a6, c6, e6, hag6⟩ := OwnB.ag ho hbc
    cases e6
    refine nw_ret_body (.tuple #[.slice a5 code.length c5, .int .i64 0, .int .i64 0]) (fun _ => by kernel_rfl) ?_
    exact ⟨_, rfl, _, _, _, rfl, hag6, hB⟩
  | false =>
    have dhq5 := of_decide_eq_false hq5
    refine cw_cond_f (fun _ => by kernel_rfl) ?_
    refine cw_skip ?_
    refine nw_then ?_
    refine cw_seq ?_
    refine cw_region ?_
    refine rw_p 19 (.pointer (some ⟨g2, 0, none⟩)) (fun _ => by kernel_rfl) (fun _ => by kernel_rfl) ?_
    refine rw_p 20 (.pointer (some ⟨g2, 0, none⟩)) (fun _ => by kernel_rfl) (fun _ => by kernel_rfl) ?_
    refine rw_p 21 (.pointer (some ⟨g2, 1, none⟩)) (fun _ => by kernel_rfl) (fun _ => by kernel_rfl) ?_
    refine rw_p 22 (.int .i64 ((t + rn rest true : Nat) : Int)) (fun _ => by kernel_rfl) (fun _ => ol_cell 3 _ ⟨g2, 1, none⟩ _ _ rfl (by kernel_rfl) (by rw [cell_of_row _ _ _ _ _ _ hr]; rfl) Tryd.underlying3 rfl) ?_
    refine rw_p 8 (.int .i64 ((t + rn rest true : Nat) : Int)) (fun _ => by kernel_rfl) (fun _ => by kernel_rfl) ?_
    refine rw_nil ?_
    refine nw_then ?_
    refine cw_seq ?_
    refine cw_region ?_
    refine rw_p 24 (.pointer (some ⟨g2, 0, none⟩)) (fun _ => by kernel_rfl) (fun _ => by kernel_rfl) ?_
    refine rw_p 25 (.string (strOfNums (nxW rest))) (fun _ => by kernel_rfl) (fun _ => by kernel_rfl) ?_
    refine rw_call 26 27 #[.pointer (some ⟨g2, 0, none⟩), .string (strOfNums (nxW rest))] (fun _ => by kernel_rfl) (fun _ => by kernel_rfl) (R := RSu g2 wn l (s1 rest t)) (by have := rstmt (W := nxW rest) wn hr (byt_nx hbr).2.1 hb (by omega) hl; rw [← hnr] at this; exact this) ?_
    rintro _ ws ⟨x9, n9, c9, i9, rfl, hpc, hrs, hie, hks⟩
    replace hB := hB.tou hks hzg2
    replace ho := ho.touch hks (by omega)
    clear hr; have hr := hrs
    have hln9 : (s1 rest t).1.1.length = n9 := hpc.l
    have hl99 : (s1 rest t).1.1.length ≤ 9 := st_len1
    refine rw_p 23 (.tuple #[.slice x9 n9 c9, .int .i64 (s1 rest t).1.2.2]) (fun _ => by kernel_rfl) (fun _ => by kernel_rfl) ?_
    refine rw_p 27 (.slice x9 n9 c9) (fun _ => by kernel_rfl) (fun _ => by kernel_rfl) ?_
    refine rw_p 28 (.int .i64 (s1 rest t).1.2.2) (fun _ => by kernel_rfl) (fun _ => by kernel_rfl) ?_
    refine rw_p 9 (.slice x9 n9 c9) (fun _ => by kernel_rfl) (fun _ => by kernel_rfl) ?_
    refine rw_p 10 (.int .i64 (s1 rest t).1.2.2) (fun _ => by kernel_rfl) (fun _ => by kernel_rfl) ?_
    refine rw_nil ?_
    refine nw_then ?_
    refine cw_seq ?_
    refine cw_seq ?_
    refine cw_region ?_
    refine rw_p 29 (.int .i64 (s1 rest t).1.2.2) (fun _ => by kernel_rfl) (fun _ => by kernel_rfl) ?_
    refine rw_p 30 (.bool (!(((s1 rest t).1.2.2 : Int) == (0 : Int)))) (fun _ => by kernel_rfl) (fun _ => by kernel_rfl) ?_
    refine rw_nil ?_
    refine nw_then ?_
    cases hq6 : (!(((s1 rest t).1.2.2 : Int) == (0 : Int))) with
    | true =>
      refine cw_cond_t (fun _ => by kernel_rfl) ?_
      refine cw_seq ?_
      have hi9 := hie (by simpa using hq6)
      subst hi9
      refine cw_draw (fun v => Rw g2 v (rdC l (s1 rest t).1.2.1 (s1 rest t).2.2) 57) (by kernel_rfl) (hr) ?_
      replace hB := hB.go (Below.refl _ _).drew
      replace hr := hr.go (Below.refl _ _).drew
      refine dw_take 0 31 (.pointer (some ⟨g2, 0, none⟩)) rfl (by kernel_rfl) (fun _ _ _ h => h) (fun _ => by kernel_rfl) (fun v hv _ => by kernel_rfl) hr ?_
      refine dw_take 1 32 (.pointer (some ⟨g2, 0, none⟩)) rfl (by kernel_rfl) (fun _ _ _ h => h) (fun _ => by kernel_rfl) (fun v hv _ => by kernel_rfl) hr ?_
      refine dw_take 2 33 (.pointer (some ⟨g2, 1, none⟩)) rfl (by kernel_rfl) (fun _ _ _ h => h) (fun _ => by kernel_rfl) (fun v hv _ => by kernel_rfl) hr ?_
      refine dw_take 3 34 (.int .i64 (((s1 rest t).1.2.1 : Nat) : Int)) rfl (by kernel_rfl) (fun _ _ _ h => h) (fun _ => by kernel_rfl) (fun v hv _ => ol_cell 3 _ ⟨g2, 1, none⟩ _ _ rfl (by kernel_rfl) (by rw [cell_of_row _ _ _ _ _ _ hv]; rfl) Tryd.underlying3 rfl) hr ?_
      refine dw_take 4 35 (.int .i64 (s1 rest t).1.2.2) rfl (by kernel_rfl) (fun _ _ _ h => h) (fun _ => by kernel_rfl) (fun v hv _ => by kernel_rfl) hr ?_
      refine dw_take 5 2 (.slice none 0 0) rfl (by kernel_rfl) (fun _ _ _ h => h) (fun _ => by kernel_rfl) (fun v hv _ => by kernel_rfl) hr ?_
      refine dw_take 6 3 (.int .i64 (((s1 rest t).1.2.1 : Nat) : Int)) rfl (by kernel_rfl) (fun _ _ _ h => h) (fun _ => by kernel_rfl) (fun v hv _ => by kernel_rfl) hr ?_
      refine dw_take 7 4 (.int .i64 (s1 rest t).1.2.2) rfl (by kernel_rfl) (fun _ _ _ h => h) (fun _ => by kernel_rfl) (fun v hv _ => by kernel_rfl) hr ?_
      refine dw_done (by kernel_rfl) ?_
      refine nw_then ?_
      refine cw_ret ?_
      refine nw_ret_then ?_
      refine nw_ret_block ?_
      refine nw_ret_then ?_
      refine nw_ret_block ?_
      rw [← has, as_err dhq5 (by simpa using hq6)]
      refine nw_ret_body (.tuple #[.slice none 0 0, .int .i64 (((s1 rest t).1.2.1 : Nat) : Int), .int .i64 (s1 rest t).1.2.2]) (fun _ => by kernel_rfl) ?_
      exact ⟨_, rfl, _, _, _, rfl, ag_nil _, hB⟩
    | false =>
      refine cw_cond_f (fun _ => by kernel_rfl) ?_
      refine cw_skip ?_
      refine nw_then ?_
      refine cw_seq ?_
      refine cw_region ?_
      refine rw_p 36 (.slice a5 code.length c5) (fun _ => by kernel_rfl) (fun _ => by kernel_rfl) ?_
      refine rw_p 37 (.slice x9 n9 c9) (fun _ => by kernel_rfl) (fun _ => by kernel_rfl) ?_
      obtain ⟨v9, wa, hra, hoa, hba⟩ := app_run ho hpc (by omega) (by have := hr.lt; omega)
      have hbc2 : Byt (code ++ (s1 rest t).1.1) := byt_app hbc st_byt1
      obtain ⟨a7, c7, rfl, hag7⟩ := OwnB.ag hoa hbc2
      refine rw_v 38 (.slice a7 (code ++ (s1 rest t).1.1).length c7) (fun _ => by kernel_rfl) (fun _ => ol_app hra _ _ rfl (by kernel_rfl) (by kernel_rfl)) ?_
      replace hB : Bl w wa := Below.trans hB (hba.mono (by omega))
      replace hr := hr.base hba (by omega)
      have hcl : (code ++ (s1 rest t).1.1).length = code.length + n9 := by rw [List.length_append, hln9]
      refine rw_p 6 (.slice a7 (code ++ (s1 rest t).1.1).length c7) (fun _ => by kernel_rfl) (fun _ => by kernel_rfl) ?_
      refine rw_nil ?_
      refine nw_then ?_
      refine cw_seq ?_
      refine cw_region ?_
      refine rw_p 39 (.slice a7 (code ++ (s1 rest t).1.1).length c7) (fun _ => by kernel_rfl) (fun _ => by kernel_rfl) ?_
      refine rw_p 40 (.int .i64 (((code ++ (s1 rest t).1.1).length : Nat) : Int)) (fun _ => by kernel_rfl) (fun _ => by kernel_rfl) ?_
      refine rw_p 41 (.bool (decide ((((code ++ (s1 rest t).1.1).length : Nat) : Int) > (256 : Int)))) (fun _ => by kernel_rfl) (fun _ => by kernel_rfl) ?_
      refine rw_nil ?_
      refine nw_then ?_
      cases hq7 : (decide ((((code ++ (s1 rest t).1.1).length : Nat) : Int) > (256 : Int))) with
      | true =>
        have dhq7 := of_decide_eq_true hq7
        refine cw_cond_t (fun _ => by kernel_rfl) ?_
        refine cw_seq ?_
        refine cw_region ?_
        refine rw_p 42 (.int .i64 ((t + rn rest true : Nat) : Int)) (fun _ => by kernel_rfl) (fun _ => by kernel_rfl) ?_
        refine rw_p 2 (.slice none 0 0) (fun _ => by kernel_rfl) (fun _ => by kernel_rfl) ?_
        refine rw_p 3 (.int .i64 ((t + rn rest true : Nat) : Int)) (fun _ => by kernel_rfl) (fun _ => by kernel_rfl) ?_
        refine rw_p 4 (.int .i64 142) (fun _ => by kernel_rfl) (fun _ => by kernel_rfl) ?_
        refine rw_nil ?_
        refine nw_then ?_
        refine cw_ret ?_
        refine nw_ret_block ?_
        refine nw_ret_then ?_
        refine nw_ret_block ?_
        rw [← has, as_long dhq5 (by simpa using hq6) (by omega)]
        refine nw_ret_body (.tuple #[.slice none 0 0, .int .i64 ((t + rn rest true : Nat) : Int), .int .i64 142]) (fun _ => by kernel_rfl) ?_
        exact ⟨_, rfl, _, _, _, rfl, ag_nil _, hB⟩
      | false =>
        have dhq7 := of_decide_eq_false hq7
        refine cw_cond_f (fun _ => by kernel_rfl) ?_
        refine cw_skip ?_
        refine nw_block ?_
        have hs := s1_len (p := t) dhq5
        have he : (s1 rest t).1.2.2 = 0 := by simpa using hq6
        have hsr : (s1 rest t).2.1 = l.drop (s1 rest t).2.2 := by
          rcases st_rest (nxW rest) (nxR rest) (t + rn rest true + (nxW rest).length) (t + rn rest true) with h9 | h9
          · show (stP _ _ _ _).2.1 = _; unfold s1; rw [h9]; exact hnr
          · show (stP _ _ _ _).2.1 = _; unfold s1; rw [h9]; show nxR (nxR rest) = _; rw [hnr]; exact nxR_drop
        refine nw_round (X := Value × List Int × Nat × Nat) (E := fun q => [(5, .pointer (some ⟨g2, 0, none⟩)), (6, q.1)]) (R := fun q v => OwnB v (g2 + 1) q.1 q.2.1 ∧ Byt q.2.1 ∧ q.2.1.length ≤ 256 ∧ Rw g2 v (rdC l q.2.2.1 q.2.2.2) 57 ∧ q.2.2.2 ≤ l.length ∧ asF q.2.1 (l.drop q.2.2.2) q.2.2.2 = asF [] l 0 ∧ Bl w v) (μ := fun q => l.length - q.2.2.2) (x := (.slice a5 code.length c5, code, i, t)) (.slice a7 (code ++ (s1 rest t).1.1).length c7, code ++ (s1 rest t).1.1, i9, (s1 rest t).2.2) (by exact ⟨fun _ => by kernel_rfl, ⟨fun _ => by kernel_rfl, trivial⟩⟩) ⟨hoa, hbc2, by show (code ++ _).length ≤ 256; omega, hr, by show (s1 rest t).2.2 ≤ l.length; omega, ?_, hB⟩ (by show l.length - (s1 rest t).2.2 < l.length - t; omega)
        show asF (code ++ (s1 rest t).1.1) (l.drop (s1 rest t).2.2) (s1 rest t).2.2 = _
        rw [← hsr, ← has, as_go dhq5 he (by omega)]
set_option maxHeartbeats 2000000 in
theorem assembles_any {l : List Int} (w : World) (ht : Tb w) (hb : Byt l) (hl : l.length ≤ 9223372036854775000) : Calls Tryd.prog 5 #[.string (strOfNums l)] w (Law14 w) := by
  have ht0 := ht
  have hB : Bl w w := Bl.refl w
  refine cw_enter Tryd.func5 rfl 37 rfl ?_
  show CW _ _ _ _ _ _ _ [(0, .string (strOfNums l))] _
  obtain ⟨C, pl, er, has⟩ : ∃ C pl er, asF [] l 0 = (C, pl, er) := ⟨_, _, _, rfl⟩
  refine cw_seq ?_
  refine cw_region ?_
  refine rw_p 2 (.bool false) (fun _ => by kernel_rfl) (fun _ => by kernel_rfl) ?_
  refine rw_nil ?_
  refine nw_then ?_
  refine cw_seq ?_
  refine cw_region ?_
  refine rw_p 10 (.string (strOfNums l)) (fun _ => by kernel_rfl) (fun _ => by kernel_rfl) ?_
  refine rw_call 11 15 #[.string (strOfNums l)] (fun _ => by kernel_rfl) (fun _ => by kernel_rfl) (R := RAs w (C, pl, er)) (by have := wasm (l := l) hb hl w ht; rw [has] at this; exact this) ?_
  rintro _ w4 ⟨x1, n2, c3, rfl, ha5, hb6⟩
  replace ha5 : Ag w4 x1 n2 c3 C := ha5
  replace hB := hB.go hb6
  replace ht := ht.go hb6
  have hlha5 : List.length (C) = n2 := ha5.l
  refine rw_p 9 (.tuple #[.slice x1 n2 c3, .int .i64 ((pl : Nat) : Int), .int .i64 er]) (fun _ => by kernel_rfl) (fun _ => by kernel_rfl) ?_
  refine rw_p 12 (.slice x1 n2 c3) (fun _ => by kernel_rfl) (fun _ => by kernel_rfl) ?_
  refine rw_p 13 (.int .i64 ((pl : Nat) : Int)) (fun _ => by kernel_rfl) (fun _ => by kernel_rfl) ?_
  refine rw_p 14 (.int .i64 er) (fun _ => by kernel_rfl) (fun _ => by kernel_rfl) ?_
  refine rw_p 3 (.slice x1 n2 c3) (fun _ => by kernel_rfl) (fun _ => by kernel_rfl) ?_
  refine rw_p 4 (.int .i64 ((pl : Nat) : Int)) (fun _ => by kernel_rfl) (fun _ => by kernel_rfl) ?_
  refine rw_p 5 (.int .i64 er) (fun _ => by kernel_rfl) (fun _ => by kernel_rfl) ?_
  refine rw_nil ?_
  refine nw_then ?_
  refine cw_seq ?_
  refine cw_region ?_
  refine rw_p 16 (.string (strOfNums l)) (fun _ => by kernel_rfl) (fun _ => by kernel_rfl) ?_
  refine rw_call 17 16 #[.string (strOfNums l)] (fun _ => by kernel_rfl) (fun _ => by kernel_rfl) (R := RAs w4 (C, pl, er)) (by have := rasm (l := l) hb hl w4; rw [has] at this; exact this) ?_
  rintro _ w10 ⟨x7, n8, c9, rfl, ha11, hb12⟩
  replace ha11 : Ag w10 x7 n8 c9 C := ha11
  replace hB := hB.go hb12
  replace ht := ht.go hb12
  replace ha5 := ha5.go hb12
  have hlha11 : List.length (C) = n8 := ha11.l
  refine rw_p 15 (.tuple #[.slice x7 n8 c9, .int .i64 ((pl : Nat) : Int), .int .i64 er]) (fun _ => by kernel_rfl) (fun _ => by kernel_rfl) ?_
  refine rw_p 18 (.slice x7 n8 c9) (fun _ => by kernel_rfl) (fun _ => by kernel_rfl) ?_
  refine rw_p 19 (.int .i64 ((pl : Nat) : Int)) (fun _ => by kernel_rfl) (fun _ => by kernel_rfl) ?_
  refine rw_p 20 (.int .i64 er) (fun _ => by kernel_rfl) (fun _ => by kernel_rfl) ?_
  refine rw_p 6 (.slice x7 n8 c9) (fun _ => by kernel_rfl) (fun _ => by kernel_rfl) ?_
  refine rw_p 7 (.int .i64 ((pl : Nat) : Int)) (fun _ => by kernel_rfl) (fun _ => by kernel_rfl) ?_
  refine rw_p 8 (.int .i64 er) (fun _ => by kernel_rfl) (fun _ => by kernel_rfl) ?_
  refine rw_nil ?_
  refine nw_then ?_
  refine cw_seq ?_
  refine cw_region ?_
  refine rw_call 21 11 #[] (fun _ => by kernel_rfl) (fun _ => by kernel_rfl) (R := RVl w10 (.bool true)) (walive w10 ht) ?_
  rintro _ w13 ⟨rfl, hb14⟩
  replace hB := hB.go hb14
  replace ht := ht.go hb14
  replace ha5 := ha5.go hb14
  replace ha11 := ha11.go hb14
  refine rw_p 22 (.bool true) (fun _ => by kernel_rfl) (fun _ => by kernel_rfl) ?_
  refine rw_p 23 (.slice x1 n2 c3) (fun _ => by kernel_rfl) (fun _ => by kernel_rfl) ?_
  refine rw_p 24 (.slice x7 n8 c9) (fun _ => by kernel_rfl) (fun _ => by kernel_rfl) ?_
  refine rw_call 25 17 #[.slice x1 n2 c3, .slice x7 n8 c9] (fun _ => by kernel_rfl) (fun _ => by kernel_rfl) (R := RVl w13 (.bool true)) (wsame w13 ha5 ha11) ?_
  rintro _ w15 ⟨rfl, hb16⟩
  replace hB := hB.go hb16
  replace ht := ht.go hb16
  replace ha5 := ha5.go hb16
  replace ha11 := ha11.go hb16
  refine rw_p 26 (.bool true) (fun _ => by kernel_rfl) (fun _ => by kernel_rfl) ?_
  refine rw_p 27 (.bool true) (fun _ => by kernel_rfl) (fun _ => by kernel_rfl) ?_
  refine rw_p 28 (.int .i64 ((pl : Nat) : Int)) (fun _ => by kernel_rfl) (fun _ => by kernel_rfl) ?_
  refine rw_p 29 (.int .i64 ((pl : Nat) : Int)) (fun _ => by kernel_rfl) (fun _ => by kernel_rfl) ?_
  refine rw_p 30 (.bool true) (fun _ => by kernel_rfl) (fun _ => ol_conv (v := .bool (((pl : Nat) : Int) == ((pl : Nat) : Int))) (by kernel_rfl) (congrArg Value.bool (beq_self_eq_true _))) ?_
  refine rw_p 31 (.bool true) (fun _ => by kernel_rfl) (fun _ => by kernel_rfl) ?_
  refine rw_p 32 (.bool true) (fun _ => by kernel_rfl) (fun _ => by kernel_rfl) ?_
  refine rw_p 33 (.int .i64 er) (fun _ => by kernel_rfl) (fun _ => by kernel_rfl) ?_
  refine rw_p 34 (.int .i64 er) (fun _ => by kernel_rfl) (fun _ => by kernel_rfl) ?_
  refine rw_p 35 (.bool true) (fun _ => by kernel_rfl) (fun _ => ol_conv (v := .bool ((er : Int) == (er : Int))) (by kernel_rfl) (congrArg Value.bool (beq_self_eq_true _))) ?_
  refine rw_p 36 (.bool true) (fun _ => by kernel_rfl) (fun _ => by kernel_rfl) ?_
  refine rw_p 2 (.bool true) (fun _ => by kernel_rfl) (fun _ => by kernel_rfl) ?_
  refine rw_nil ?_
  refine nw_then ?_
  refine cw_ret ?_
  refine nw_ret_body (.bool true) (fun _ => by kernel_rfl) ?_
  exact ⟨rfl, hB⟩
end Go.Proofs.YtbjjboicfghldaaDoor

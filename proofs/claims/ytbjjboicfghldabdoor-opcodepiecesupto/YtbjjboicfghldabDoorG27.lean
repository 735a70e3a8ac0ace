/- What the program's Assemble answers. -/
import Derived.Test.YtbjjboicfghldabDoorG26
namespace Go.Proofs.YtbjjboicfghldabDoor
open Go.RowKit
open Wo
set_option linter.unusedVariables false
set_option maxRecDepth 100000
theorem st_byt1 {l rest : List Int} {p pl : Nat} : Byt (stP l rest p pl).1.1 := by
  cases hbg : bgP l with
  | none => rw [st_no hbg]; exact fun x hx => absurd hx List.not_mem_nil
  | some o =>
    obtain ⟨hd, sz⟩ := o
    have hs := bg_small hbg
    unfold stP
    rw [hbg]
    simp only
    split
    · exact hs.2.1
    · split
      · exact fun x hx => absurd hx List.not_mem_nil
      · have hm := szo_bd (m := (ps (nxW rest)).1) (ps_lt _)
        split
        · intro x hx
          rcases List.mem_cons.1 hx with rfl | hx
          · omega
          · exact bek_bd _ _ x hx
        · exact byt_app hs.2.1 (bek_bd _ _)
theorem st_len1 {l rest : List Int} {p pl : Nat} : (stP l rest p pl).1.1.length ≤ 9 := by
  cases hbg : bgP l with
  | none => rw [st_no hbg]; exact Nat.zero_le _
  | some o =>
    obtain ⟨hd, sz⟩ := o
    have hs := bg_small hbg
    unfold stP
    rw [hbg]
    simp only
    split
    · show hd.length ≤ 9; omega
    · split
      · exact Nat.zero_le _
      · have hm := szo_bd (m := (ps (nxW rest)).1) (ps_lt _)
        split
        · rw [List.length_cons, bek_len]; omega
        · rw [List.length_append, bek_len]; omega
set_option maxHeartbeats 2000000 in
theorem wasm {l : List Int} (hb : Byt l) (hl : l.length ≤ 9223372036854775000) (w : World) (ht : Tb w) : Calls Tryd.prog 5 #[.string (strOfNums l)] w fun e w' => ∃ v, e = .returned v ∧ RAs w (asF [] l 0) v w' := by
  have ht0 := ht
  have hB : Bl w w := Bl.refl w
  refine cw_enter Tryd.func5 rfl 42 rfl ?_
  show CW _ _ _ _ _ _ _ [(0, .string (strOfNums l))] _
  refine cw_seq ?_
  refine cw_region ?_
  refine rw_p 2 (.slice none 0 0) (fun _ => by kernel_rfl) (fun _ => by kernel_rfl) ?_
  refine rw_p 3 (.int .i64 0) (fun _ => by kernel_rfl) (fun _ => by kernel_rfl) ?_
  refine rw_p 4 (.int .i64 0) (fun _ => by kernel_rfl) (fun _ => by kernel_rfl) ?_
  refine rw_nil ?_
  refine nw_then ?_
  refine cw_seq ?_
  refine cw_region ?_
  refine rw_p 5 (.slice none 0 0) (fun _ => by kernel_rfl) (fun _ => by kernel_rfl) ?_
  refine rw_nil ?_
  refine nw_then ?_
  refine cw_seq ?_
  refine cw_region ?_
  refine rw_p 12 (.string (strOfNums l)) (fun _ => by kernel_rfl) (fun _ => by kernel_rfl) ?_
  refine rw_p 13 (.agg #[.string (strOfNums l), .int .i64 0]) (fun _ => by kernel_rfl) (fun _ => by kernel_rfl) ?_
  refine rw_new 6 (#[.string (strOfNums []), .int .i64 0]) 38 (fun _ => by kernel_rfl) (fun _ => by kernel_rfl) ?_
  intro w1 g2 hn3
  have hzg2 : w.heap.size ≤ g2 := by have := hB.size; have := hn3.hg; omega
  have hr4 : Rw g2 w1 (#[.string (strOfNums []), .int .i64 0]) 38 := hn3.row
  refine rw_put g2 (#[.string (strOfNums l), .int .i64 0]) (fun _ => by kernel_rfl) (fun _ => ol_store 38 _ _ _ _ _ 38 rfl (by kernel_rfl) (by kernel_rfl) hr4 (by kernel_rfl) rfl (by kernel_rfl)) ?_
  intro w5 hp6
  have hbg2 : Below w.heap.size w w5 := hp6.below hn3.below (Nat.le_of_eq hn3.hg.symm) (by have := hn3.size; have := hn3.hg; omega)
  replace hB := hB.go hbg2
  replace ht := ht.go hbg2
  have hr7 : Rw g2 w5 (#[.string (strOfNums l), .int .i64 0]) 38 := hr4.put hp6
  refine rw_nil ?_
  refine nw_then ?_
  refine cw_block ?_
  have hgt : 0 ≠ g2 := by have := ht0.lt; omega
  refine cw_loop (X := Value × List Int × List Int × Nat) (fun q => [(5, q.1), (6, .pointer (some ⟨g2, 0, none⟩))]) (fun q v => OwnB v (g2 + 1) q.1 q.2.1 ∧ Byt q.2.1 ∧ q.2.1.length ≤ 256 ∧ Rw g2 v (txC q.2.2.1 q.2.2.2) 38 ∧ Byt q.2.2.1 ∧ q.2.2.2 + q.2.2.1.length = l.length ∧ asF q.2.1 q.2.2.1 q.2.2.2 = asF [] l 0 ∧ Bl w v) (fun q => q.2.2.1.length) (.slice none 0 0, [], l, 0) (by exact ⟨fun _ => by kernel_rfl, ⟨fun _ => by kernel_rfl, trivial⟩⟩) ⟨ownB_nil _ _, (fun x hx => absurd hx List.not_mem_nil), by simp, hr7, hb, by simp, rfl, hB⟩ ?_
  rintro ⟨u, code, rest, p⟩ wl ⟨ho, hbc, hlc, hr, hbr, hpl, has, hB⟩
  simp only at ho hbc hlc hr hbr hpl has
  obtain ⟨a5, c5, rfl, hag5⟩ := OwnB.ag ho hbc
  show CW _ _ _ _ _ _ _ [(5, .slice a5 code.length c5), (6, .pointer (some ⟨g2, 0, none⟩))] _
  have ht := ht0.go hB
  have hnl := nxW_len rest
  refine cw_block ?_
  refine cw_seq ?_
  refine cw_region ?_
  refine rw_call 15 12 #[.pointer (some ⟨g2, 0, none⟩)] (fun _ => by kernel_rfl) (fun _ => by kernel_rfl) (R := RTx g2 wl (nxR rest) (p + rn rest true + (nxW rest).length) (.tuple #[.string (strOfNums (nxW rest)), .int .i64 ((p + rn rest true : Nat) : Int)])) (wnext wl hr hbr (by omega)) ?_
  rintro _ wn ⟨rfl, hrn, hkn⟩
  replace hB := hB.tou hkn hzg2
  replace ht := ht0.go hB
  replace ho := ho.touch hkn (by omega)
  clear hr; have hr := hrn
  refine rw_p 14 (.tuple #[.string (strOfNums (nxW rest)), .int .i64 ((p + rn rest true : Nat) : Int)]) (fun _ => by kernel_rfl) (fun _ => by kernel_rfl) ?_
  refine rw_p 16 (.string (strOfNums (nxW rest))) (fun _ => by kernel_rfl) (fun _ => by kernel_rfl) ?_
  refine rw_p 17 (.int .i64 ((p + rn rest true : Nat) : Int)) (fun _ => by kernel_rfl) (fun _ => by kernel_rfl) ?_
  refine rw_p 7 (.string (strOfNums (nxW rest))) (fun _ => by kernel_rfl) (fun _ => by kernel_rfl) ?_
  refine rw_p 8 (.int .i64 ((p + rn rest true : Nat) : Int)) (fun _ => by kernel_rfl) (fun _ => by kernel_rfl) ?_
  refine rw_nil ?_
  refine nw_then ?_
  refine cw_seq ?_
  refine cw_seq ?_
  refine cw_region ?_
  refine rw_p 18 (.string (strOfNums (nxW rest))) (fun _ => by kernel_rfl) (fun _ => by kernel_rfl) ?_
  refine rw_p 19 (.bool (decide (nxW rest = []))) (fun _ => by kernel_rfl) (fun _ => ol_eqS 9 _ _ _ (nxW rest) ([]) rfl (by kernel_rfl) (by kernel_rfl) (byt_nx hbr).2.1 (byt_lit (by decide))) ?_
  refine rw_nil ?_
  refine nw_then ?_
  cases hq8 : (decide (nxW rest = [])) with
  | true =>
    have dhq8 := of_decide_eq_true hq8
    refine cw_cond_t (fun _ => by kernel_rfl) ?_
    refine cw_seq ?_
    refine cw_region ?_
    refine rw_p 20 (.slice a5 code.length c5) (fun _ => by kernel_rfl) (fun _ => by kernel_rfl) ?_
    refine rw_p 2 (.slice a5 code.length c5) (fun _ => by kernel_rfl) (fun _ => by kernel_rfl) ?_
    refine rw_p 3 (.int .i64 0) (fun _ => by kernel_rfl) (fun _ => by kernel_rfl) ?_
    refine rw_p 4 (.int .i64 0) (fun _ => by kernel_rfl) (fun _ => by kernel_rfl) ?_
    refine rw_nil ?_
    refine nw_then ?_
    refine cw_ret ?_
    refine nw_ret_then ?_
    refine nw_ret_block ?_
    refine nw_ret_then ?_
    refine nw_ret_block ?_
    rw [← has, as_end dhq8]
    obtain ⟨a6, c6, e6, hag6⟩ := OwnB.ag ho hbc
    cases e6
    refine nw_ret_body (.tuple #[.slice a5 code.length c5, .int .i64 0, .int .i64 0]) (fun _ => by kernel_rfl) ?_
    exact ⟨_, rfl, _, _, _, rfl, hag6, hB⟩
  | false =>
    have dhq8 := of_decide_eq_false hq8
    refine cw_cond_f (fun _ => by kernel_rfl) ?_
    refine cw_skip ?_
    refine nw_then ?_
    refine cw_seq ?_
    refine cw_region ?_
    refine rw_p 22 (.string (strOfNums (nxW rest))) (fun _ => by kernel_rfl) (fun _ => by kernel_rfl) ?_
    refine rw_p 23 (.int .i64 ((p + rn rest true : Nat) : Int)) (fun _ => by kernel_rfl) (fun _ => by kernel_rfl) ?_
    refine rw_call 24 13 #[.pointer (some ⟨g2, 0, none⟩), .string (strOfNums (nxW rest)), .int .i64 ((p + rn rest true : Nat) : Int)] (fun _ => by kernel_rfl) (fun _ => by kernel_rfl) (R := RSt g2 wn (s1 rest p)) (wstmt wn hr (byt_nx hbr).2.1 (byt_nx hbr).2.2 (by omega) ht hgt) ?_
    rintro _ ws ⟨x9, n9, c9, rfl, hpc, hrs, hks⟩
    replace hB := hB.tou hks hzg2
    replace ht := ht0.go hB
    replace ho := ho.touch hks (by omega)
    clear hr; have hr := hrs
    have hln9 : (s1 rest p).1.1.length = n9 := hpc.l
    have hl99 : (s1 rest p).1.1.length ≤ 9 := st_len1
    refine rw_p 21 (.tuple #[.slice x9 n9 c9, .int .i64 (((s1 rest p).1.2.1 : Nat) : Int), .int .i64 (s1 rest p).1.2.2]) (fun _ => by kernel_rfl) (fun _ => by kernel_rfl) ?_
    refine rw_p 25 (.slice x9 n9 c9) (fun _ => by kernel_rfl) (fun _ => by kernel_rfl) ?_
    refine rw_p 26 (.int .i64 (((s1 rest p).1.2.1 : Nat) : Int)) (fun _ => by kernel_rfl) (fun _ => by kernel_rfl) ?_
    refine rw_p 27 (.int .i64 (s1 rest p).1.2.2) (fun _ => by kernel_rfl) (fun _ => by kernel_rfl) ?_
    refine rw_p 9 (.slice x9 n9 c9) (fun _ => by kernel_rfl) (fun _ => by kernel_rfl) ?_
    refine rw_p 10 (.int .i64 (((s1 rest p).1.2.1 : Nat) : Int)) (fun _ => by kernel_rfl) (fun _ => by kernel_rfl) ?_
    refine rw_p 11 (.int .i64 (s1 rest p).1.2.2) (fun _ => by kernel_rfl) (fun _ => by kernel_rfl) ?_
    refine rw_nil ?_
    refine nw_then ?_
    refine cw_seq ?_
    refine cw_seq ?_
    refine cw_region ?_
    refine rw_p 28 (.int .i64 (s1 rest p).1.2.2) (fun _ => by kernel_rfl) (fun _ => by kernel_rfl) ?_
    refine rw_p 29 (.bool (!(((s1 rest p).1.2.2 : Int) == (0 : Int)))) (fun _ => by kernel_rfl) (fun _ => by kernel_rfl) ?_
    refine rw_nil ?_
    refine nw_then ?_
    cases hq9 : (!(((s1 rest p).1.2.2 : Int) == (0 : Int))) with
    | true =>
      refine cw_cond_t (fun _ => by kernel_rfl) ?_
      refine cw_seq ?_
      refine cw_region ?_
      refine rw_p 30 (.int .i64 (((s1 rest p).1.2.1 : Nat) : Int)) (fun _ => by kernel_rfl) (fun _ => by kernel_rfl) ?_
      refine rw_p 31 (.int .i64 (s1 rest p).1.2.2) (fun _ => by kernel_rfl) (fun _ => by kernel_rfl) ?_
      refine rw_p 2 (.slice none 0 0) (fun _ => by kernel_rfl) (fun _ => by kernel_rfl) ?_
      refine rw_p 3 (.int .i64 (((s1 rest p).1.2.1 : Nat) : Int)) (fun _ => by kernel_rfl) (fun _ => by kernel_rfl) ?_
      refine rw_p 4 (.int .i64 (s1 rest p).1.2.2) (fun _ => by kernel_rfl) (fun _ => by kernel_rfl) ?_
      refine rw_nil ?_
      refine nw_then ?_
      refine cw_ret ?_
      refine nw_ret_then ?_
      refine nw_ret_block ?_
      refine nw_ret_then ?_
      refine nw_ret_block ?_
      rw [← has, as_err dhq8 (by simpa using hq9)]
      refine nw_ret_body (.tuple #[.slice none 0 0, .int .i64 (((s1 rest p).1.2.1 : Nat) : Int), .int .i64 (s1 rest p).1.2.2]) (fun _ => by kernel_rfl) ?_
      exact ⟨_, rfl, _, _, _, rfl, ag_nil _, hB⟩
    | false =>
      refine cw_cond_f (fun _ => by kernel_rfl) ?_
      refine cw_skip ?_
      refine nw_then ?_
      refine cw_seq ?_
      refine cw_seq ?_
      refine cw_region ?_
      refine rw_p 32 (.slice a5 code.length c5) (fun _ => by kernel_rfl) (fun _ => by kernel_rfl) ?_
      refine rw_p 33 (.int .i64 ((code.length : Nat) : Int)) (fun _ => by kernel_rfl) (fun _ => by kernel_rfl) ?_
      refine rw_p 34 (.slice x9 n9 c9) (fun _ => by kernel_rfl) (fun _ => by kernel_rfl) ?_
      refine rw_p 35 (.int .i64 ((n9 : Nat) : Int)) (fun _ => by kernel_rfl) (fun _ => by kernel_rfl) ?_
      refine rw_p 36 (.int .i64 ((code.length + n9 : Nat) : Int)) (fun _ => by kernel_rfl) (fun _ => ol_conv (v := .int .i64 (IntKind.i64.wrap (((code.length : Nat) : Int) + ((n9 : Nat) : Int)))) (by kernel_rfl) (congrArg (Value.int .i64) (show IntKind.i64.wrap (((code.length : Nat) : Int) + ((n9 : Nat) : Int)) = ((code.length + n9 : Nat) : Int) from (wrap64 (by omega) (by omega)).trans (by omega)))) ?_
      refine rw_p 37 (.bool (decide (((code.length + n9 : Nat) : Int) > (256 : Int)))) (fun _ => by kernel_rfl) (fun _ => by kernel_rfl) ?_
      refine rw_nil ?_
      refine nw_then ?_
      cases hq10 : (decide (((code.length + n9 : Nat) : Int) > (256 : Int))) with
      | true =>
        have dhq10 := of_decide_eq_true hq10
        refine cw_cond_t (fun _ => by kernel_rfl) ?_
        refine cw_seq ?_
        refine cw_region ?_
        refine rw_p 38 (.int .i64 ((p + rn rest true : Nat) : Int)) (fun _ => by kernel_rfl) (fun _ => by kernel_rfl) ?_
        refine rw_p 2 (.slice none 0 0) (fun _ => by kernel_rfl) (fun _ => by kernel_rfl) ?_
        refine rw_p 3 (.int .i64 ((p + rn rest true : Nat) : Int)) (fun _ => by kernel_rfl) (fun _ => by kernel_rfl) ?_
        refine rw_p 4 (.int .i64 142) (fun _ => by kernel_rfl) (fun _ => by kernel_rfl) ?_
        refine rw_nil ?_
        refine nw_then ?_
        refine cw_ret ?_
        refine nw_ret_then ?_
        refine nw_ret_block ?_
        refine nw_ret_then ?_
        refine nw_ret_block ?_
        rw [← has, as_long dhq8 (by simpa using hq9) (by omega)]
        refine nw_ret_body (.tuple #[.slice none 0 0, .int .i64 ((p + rn rest true : Nat) : Int), .int .i64 142]) (fun _ => by kernel_rfl) ?_
        exact ⟨_, rfl, _, _, _, rfl, ag_nil _, hB⟩
      | false =>
        have dhq10 := of_decide_eq_false hq10
        refine cw_cond_f (fun _ => by kernel_rfl) ?_
        refine cw_skip ?_
        refine nw_then ?_
        refine cw_region ?_
        refine rw_p 39 (.slice a5 code.length c5) (fun _ => by kernel_rfl) (fun _ => by kernel_rfl) ?_
        refine rw_p 40 (.slice x9 n9 c9) (fun _ => by kernel_rfl) (fun _ => by kernel_rfl) ?_
        obtain ⟨v9, wa, hra, hoa, hba⟩ := app_run ho hpc (by omega) (by have := hr.lt; omega)
        refine rw_v 41 v9 (fun _ => by kernel_rfl) (fun _ => ol_app hra _ _ rfl (by kernel_rfl) (by kernel_rfl)) ?_
        replace hB : Bl w wa := Below.trans hB (hba.mono (by omega))
        replace hr := hr.base hba (by omega)
        refine rw_p 5 (v9) (fun _ => by kernel_rfl) (fun _ => by kernel_rfl) ?_
        refine rw_nil ?_
        refine nw_block ?_
        have hs := s1_len (p := p) dhq8
        have he : (s1 rest p).1.2.2 = 0 := by simpa using hq9
        refine nw_round (X := Value × List Int × List Int × Nat) (E := fun q => [(5, q.1), (6, .pointer (some ⟨g2, 0, none⟩))]) (R := fun q v => OwnB v (g2 + 1) q.1 q.2.1 ∧ Byt q.2.1 ∧ q.2.1.length ≤ 256 ∧ Rw g2 v (txC q.2.2.1 q.2.2.2) 38 ∧ Byt q.2.2.1 ∧ q.2.2.2 + q.2.2.1.length = l.length ∧ asF q.2.1 q.2.2.1 q.2.2.2 = asF [] l 0 ∧ Bl w v) (μ := fun q => q.2.2.1.length) (x := (.slice a5 code.length c5, code, rest, p)) (v9, code ++ (s1 rest p).1.1, (s1 rest p).2.1, (s1 rest p).2.2) (by exact ⟨fun _ => by kernel_rfl, ⟨fun _ => by kernel_rfl, trivial⟩⟩) ⟨hoa, byt_app hbc st_byt1, by simp; omega, hr, st_byt (byt_nx hbr).2.2, by simp only; omega, ?_, hB⟩ (by exact hs.1)
        show asF (code ++ (s1 rest p).1.1) (s1 rest p).2.1 (s1 rest p).2.2 = _
        rw [← has, as_go dhq8 he (by omega)]
end Go.Proofs.YtbjjboicfghldabDoor

/- The sort of nothing. -/
import Derived.Test.YtjpcfdhkgfaeeaaG20
namespace Go.Proofs.Ytjpcfdhkgfaeeaa
open Go.RowKit
set_option linter.unusedVariables false
set_option maxRecDepth 100000
set_option maxHeartbeats 2000000 in
theorem ins_none (p : Option Addr) (cap : Nat) (fv : Value) (w : World) :
    Calls Try.prog 50 #[.slice p 0 cap, .int .i64 0, .int .i64 0, fv] w fun e w' => e = .returned (.tuple #[]) ∧ w' = w := by
  go_enter Try.func50, Try.ntmps50
  go_wp2
  refine wp_loop_rounds 1 ?_
  rw [rounds_succ]
  go_wp2
  go_end0
  exact ⟨rfl, rfl⟩
set_option maxHeartbeats 2000000 in
theorem pdq_none (p : Option Addr) (cap : Nat) (lim : Int) (fv : Value) (w : World) :
    Calls Try.prog 45 #[.slice p 0 cap, .int .i64 0, .int .i64 0, .int .i64 lim, fv] w fun e w' => e = .returned (.tuple #[]) ∧ w' = w := by
  go_enter Try.func45, Try.ntmps45
  go_wp2
  refine wp_loop_rounds 1 ?_
  rw [rounds_succ]
  go_wp2_with (go_at_call 50; refine (ins_none _ _ _ _).mono ?_; rintro e w' ⟨rfl, rfl⟩)
  (try simp only [Exit.inBlock, Exit.then]); refine bodyPost_ret (results_none rfl _ _ _) rfl ?_
  exact ⟨rfl, rfl⟩
set_option maxHeartbeats 2000000 in
theorem sort_none (cap : Nat) (p : Option Addr) (fv : Value) (w : World) : Calls Try.prog 38 #[.slice p 0 cap, fv] w fun e w' => e = .returned (.tuple #[]) ∧ w' = w := by
  go_enter Try.func38, Try.ntmps38
  go_wp2_with (first | (go_at_call 45; refine (pdq_none _ _ _ _ _).mono ?_; rintro e w' ⟨rfl, rfl⟩) | go_in)
  go_end0
  exact ⟨rfl, rfl⟩
end Go.Proofs.Ytjpcfdhkgfaeeaa
/- A store's List. -/
namespace Go.Proofs.Ytjpcfdhkgfaeeaa
open Go.RowKit
set_option linter.unusedVariables false
set_option maxRecDepth 100000
theorem to_vals : ∀ (ys : List (List Int)), LenD ys → ∃ xs : List Dg, vals xs = ys
  | [], _ => ⟨[], rfl⟩
  | y :: r, h => by
    obtain ⟨xs, hx⟩ := to_vals r fun d hd => h d (List.mem_cons_of_mem _ hd)
    exact ⟨⟨y, h y (by simp)⟩ :: xs, congrArg (y :: ·) hx⟩
set_option maxHeartbeats 1000000 in
theorem collect_any {w : World} {m Bm : Nat} {L : List Th} (hmp : MapAt w m L) (hbx : w.cell? ⟨Bm, 0, none⟩ = some (.map (some m))) (hL : L.length ≤ 2199023255549) :
    Calls Try.prog 37 #[.func (.func 39) #[] #[.pointer (some ⟨Bm, 0, none⟩)]] w fun e w' => ∃ v ys, e = .returned v ∧ ys.Perm (L.map Th.d) ∧ LenD ys ∧ OwnD w' w.heap.size v ys ∧ Below w.heap.size w w' := by
  refine cw_enter Try.func37 rfl 5 rfl ?_
  show CW _ _ _ _ _ _ _ [(0, .func (.func 39) #[] #[.pointer (some ⟨Bm, 0, none⟩)])] _
  refine cw_seq ?_
  refine cw_region ?_
  refine rw_p 2 (.slice none 0 0) (fun _ => by kernel_rfl) (fun _ => by kernel_rfl) ?_
  refine rw_nil ?_
  refine nw_then ?_
  refine cw_seq ?_
  refine cw_region ?_
  refine rw_p 3 (.func (.func 39) #[] #[.pointer (some ⟨Bm, 0, none⟩)]) (fun _ => by kernel_rfl) (fun _ => by kernel_rfl) ?_
  refine rw_call 4 44 #[.slice none 0 0, .func (.func 39) #[] #[.pointer (some ⟨Bm, 0, none⟩)]] (fun _ => by kernel_rfl) (fun _ => by kernel_rfl) (R := fun v w' => ∃ ys, ys.Perm (L.map Th.d) ∧ LenD ys ∧ OwnD w' w.heap.size v ys ∧ Below w.heap.size w w') ((appseq_any hmp hbx hL).mono (fun e w' h => by obtain ⟨v, ys, rfl, h⟩ := h; exact ⟨v, rfl, ys, h⟩)) ?_
  rintro v u ⟨ys, hp, hl, ho, hb⟩
  refine rw_p 2 (v) (fun _ => by kernel_rfl) (fun _ => by kernel_rfl) ?_
  refine rw_nil ?_
  refine nw_then ?_
  refine cw_ret ?_
  exact nw_ret_body v (fun _ => by kernel_rfl) ⟨v, ys, rfl, hp, hl, ho, hb⟩
set_option maxHeartbeats 1000000 in
theorem sortedf_any {w : World} {m Bm : Nat} {L : List Th} (hmp : MapAt w m L) (hbx : w.cell? ⟨Bm, 0, none⟩ = some (.map (some m))) (hL : L.length ≤ 2199023255549) (hnd : (L.map Th.d).Nodup) :
    Calls Try.prog 27 #[.func (.func 39) #[] #[.pointer (some ⟨Bm, 0, none⟩)], .func (.func 29) #[] #[]] w fun e w' => (∃ a n c M, e = .returned (.slice a n c) ∧ Ds w' a n c M ∧ Srt M ∧ M.Perm (L.map Th.d)) ∧ Below w.heap.size w w' := by
  refine cw_enter Try.func27 rfl 12 rfl ?_
  show CW _ _ _ _ _ _ _ [(0, .func (.func 39) #[] #[.pointer (some ⟨Bm, 0, none⟩)]), (1, .func (.func 29) #[] #[])] _
  refine cw_seq ?_
  refine cw_region ?_
  refine rw_p 4 (.slice none 0 0) (fun _ => by kernel_rfl) (fun _ => by kernel_rfl) ?_
  refine rw_nil ?_
  refine nw_then ?_
  refine cw_seq ?_
  refine cw_region ?_
  refine rw_p 6 (.func (.func 39) #[] #[.pointer (some ⟨Bm, 0, none⟩)]) (fun _ => by kernel_rfl) (fun _ => by kernel_rfl) ?_
  refine rw_call 7 37 #[.func (.func 39) #[] #[.pointer (some ⟨Bm, 0, none⟩)]] (fun _ => by kernel_rfl) (fun _ => by kernel_rfl) (R := fun v w' => ∃ ys, ys.Perm (L.map Th.d) ∧ LenD ys ∧ OwnD w' w.heap.size v ys ∧ Below w.heap.size w w') ((collect_any hmp hbx hL).mono (fun e w' h => by obtain ⟨v, ys, rfl, h⟩ := h; exact ⟨v, rfl, ys, h⟩)) ?_
  rintro v u ⟨ys, hp, hl, ho, hb⟩
  refine rw_p 5 (v) (fun _ => by kernel_rfl) (fun _ => by kernel_rfl) ?_
  refine rw_nil ?_
  refine nw_then ?_
  refine cw_seq ?_
  have hsort : ∃ a n c, v = .slice a n c ∧ Calls Try.prog 38 #[v, .func (.func 29) #[] #[]] u fun e w' => e = .returned (.tuple #[]) ∧ ∃ M, Srt M ∧ M.Perm (L.map Th.d) ∧ Ds w' a n c M ∧ Below w.heap.size w w' := by
    obtain ⟨xs, rfl⟩ := to_vals ys hl
    rcases ho.2 with ⟨rfl, h0⟩ | ⟨g, cap, cur, rfl, hbg, hg, r1, r2, r3, r4⟩
    · have hx : xs = [] := List.eq_nil_of_length_eq_zero (by rw [vals_length] at h0; exact h0)
      subst hx
      refine ⟨none, 0, 0, rfl, (sort_none 0 none _ u).mono ?_⟩
      rintro e w' ⟨rfl, rfl⟩
      exact ⟨rfl, [], List.Pairwise.nil, hp, ⟨rfl, ⟨Nat.le_refl _, by unfold maxLen; omega⟩, fun _ => ⟨rfl, rfl⟩, fun j d h => by simp at h, fun d hd => by cases hd⟩, hb⟩
    · rw [vals_length]
      refine ⟨_, _, _, rfl, (sort_some (w := u) (gb := g) (cap := cap) (xs := xs) (by have := ownsRow_base' ho (Nat.zero_le _); rw [vals_length] at this; unfold OwnD; rw [vals_length]; exact this) (hp.nodup_iff.2 hnd) (by have := hp.length_eq; rw [vals_length, List.length_map] at this; omega)).mono ?_⟩
      rintro e w' ⟨rfl, M, hs, hpm, hd, ht⟩
      exact ⟨rfl, M, hs, hpm.trans hp, hd, ht.below hb hbg hb.size⟩
  obtain ⟨a, n, c, rfl, hsort⟩ := hsort
  refine cw_region ?_
  refine rw_p 8 (.slice a n c) (fun _ => by kernel_rfl) (fun _ => by kernel_rfl) ?_
  refine rw_p 9 (.func (.func 29) #[] #[]) (fun _ => by kernel_rfl) (fun _ => by kernel_rfl) ?_
  refine rw_call 10 38 #[.slice a n c, .func (.func 29) #[] #[]] (fun _ => by kernel_rfl) (fun _ => by kernel_rfl) (R := fun v w' => ∃ M, Srt M ∧ M.Perm (L.map Th.d) ∧ Ds w' a n c M ∧ Below w.heap.size w w') (hsort.mono (fun e w' h => ⟨_, h.1, h.2⟩)) ?_
  rintro v u2 ⟨M, hs, hpm, hd, hb2⟩
  refine rw_nil ?_
  refine nw_then ?_
  refine cw_seq ?_
  refine cw_region ?_
  refine rw_p 11 (.slice a n c) (fun _ => by kernel_rfl) (fun _ => by kernel_rfl) ?_
  refine rw_p 4 (.slice a n c) (fun _ => by kernel_rfl) (fun _ => by kernel_rfl) ?_
  refine rw_nil ?_
  refine nw_then ?_
  refine cw_ret ?_
  exact nw_ret_body (.slice a n c) (fun _ => by kernel_rfl) ⟨⟨a, n, c, M, rfl, hd, hs, hpm⟩, hb2⟩
theorem keys_any (m : Nat) (w : World) : Calls Try.prog 28 #[.map (some m)] w fun e w' => ∃ g, e = .returned (.func (.func 39) #[] #[.pointer (some ⟨g, 0, none⟩)]) ∧ New w w' g #[.map (some m)] 67 := by
  refine cw_enter Try.func28 rfl 4 rfl ?_
  show CW _ _ _ _ _ _ _ [(0, .map (some m))] _
  refine cw_seq ?_
  refine cw_region ?_
  refine rw_new 1 (#[.map (some m)]) 67 (fun _ => by kernel_rfl) (fun _ => by kernel_rfl) ?_
  intro w1 g2 hn3
  refine rw_p 2 (.nilFunc) (fun _ => by kernel_rfl) (fun _ => by kernel_rfl) ?_
  refine rw_nil ?_
  refine nw_then ?_
  refine cw_seq ?_
  refine cw_region ?_
  refine rw_p 3 (.func (.func 39) #[] #[.pointer (some ⟨g2, 0, none⟩)]) (fun _ => by kernel_rfl) (fun _ => by kernel_rfl) ?_
  refine rw_p 2 (.func (.func 39) #[] #[.pointer (some ⟨g2, 0, none⟩)]) (fun _ => by kernel_rfl) (fun _ => by kernel_rfl) ?_
  refine rw_nil ?_
  refine nw_then ?_
  refine cw_ret ?_
  exact nw_ret_body (.func (.func 39) #[] #[.pointer (some ⟨g2, 0, none⟩)]) (fun _ => by kernel_rfl) ⟨g2, rfl, hn3⟩
set_option maxHeartbeats 1000000 in
theorem list_any {w : World} {g m : Nat} {most : Int} {L : List Th} (h : Sto w g m most L) (hv : Iv L) (hL : L.length ≤ 2199023255549) :
    Calls Try.prog 13 #[.pointer (some ⟨g, 0, none⟩)] w fun e w' => (∃ a n c M, e = .returned (.slice a n c) ∧ Ds w' a n c M ∧ Srt M ∧ M.Perm (L.map Th.d)) ∧ Below w.heap.size w w' := by
  refine cw_enter Try.func13 rfl 9 rfl ?_
  show CW _ _ _ _ _ _ _ [(0, .pointer (some ⟨g, 0, none⟩))] _
  refine cw_seq ?_
  refine cw_region ?_
  refine rw_p 2 (.slice none 0 0) (fun _ => by kernel_rfl) (fun _ => by kernel_rfl) ?_
  refine rw_nil ?_
  refine nw_then ?_
  refine cw_seq ?_
  refine cw_region ?_
  refine rw_p 3 (.pointer (some ⟨g, 0, none⟩)) (fun _ => by kernel_rfl) (fun _ => by kernel_rfl) ?_
  refine rw_p 4 (.pointer (some ⟨g, 0, none⟩)) (fun _ => by kernel_rfl) (fun _ => by kernel_rfl) ?_
  refine rw_p 5 (.pointer (some ⟨g, 1, none⟩)) (fun _ => by kernel_rfl) (fun _ => by kernel_rfl) ?_
  refine rw_p 6 (.map (some m)) (fun _ => by kernel_rfl) (fun _ => ol_cell 67 _ _ _ _ rfl (by kernel_rfl) h.c1 Try.underlying67 rfl) ?_
  refine rw_call 7 28 #[.map (some m)] (fun _ => by kernel_rfl) (fun _ => by kernel_rfl) (R := fun v w' => ∃ gk, v = .func (.func 39) #[] #[.pointer (some ⟨gk, 0, none⟩)] ∧ New w w' gk #[.map (some m)] 67) ((keys_any m w).mono (fun e w' h => by obtain ⟨gk, rfl, h⟩ := h; exact ⟨_, rfl, gk, rfl, h⟩)) ?_
  rintro v u ⟨gk, rfl, hn⟩
  refine rw_call 8 27 #[.func (.func 39) #[] #[.pointer (some ⟨gk, 0, none⟩)], .func (.func 29) #[] #[]] (fun _ => by kernel_rfl) (fun _ => by kernel_rfl) (R := fun v w' => (∃ a n c M, v = .slice a n c ∧ Ds w' a n c M ∧ Srt M ∧ M.Perm (L.map Th.d)) ∧ Below u.heap.size u w') ((sortedf_any (h.go hn.below).mp (by rw [cell_of_row _ _ _ _ _ _ hn.row]; rfl) hL hv.nd).mono (fun e w' h => by obtain ⟨⟨a, n, c, M, rfl, h⟩, hb⟩ := h; exact ⟨_, rfl, ⟨a, n, c, M, rfl, h⟩, hb⟩)) ?_
  rintro v u2 ⟨⟨a, n, c, M, rfl, hd, hs, hp⟩, hb⟩
  refine rw_p 2 (.slice a n c) (fun _ => by kernel_rfl) (fun _ => by kernel_rfl) ?_
  refine rw_nil ?_
  refine nw_then ?_
  refine cw_ret ?_
  exact nw_ret_body (.slice a n c) (fun _ => by kernel_rfl) ⟨⟨a, n, c, M, rfl, hd, hs, hp⟩, below_go hn.below hb⟩
end Go.Proofs.Ytjpcfdhkgfaeeaa

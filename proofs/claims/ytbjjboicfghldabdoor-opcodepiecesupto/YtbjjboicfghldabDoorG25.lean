/- What a statement's first word says, by cases; statements by cases; a text's code without a bound on its steps. -/
import Derived.Test.YtbjjboicfghldabDoorG24
namespace Go.Proofs.YtbjjboicfghldabDoor
open Go.RowKit
open Wo
set_option linter.unusedVariables false
set_option maxRecDepth 100000
theorem bg_push : bgP pushW = some ([], 8) := rfl
theorem bg_byte : bgP byteW = some ([], 1) := rfl
theorem bg_sized {l : List Int} {i : Nat} (h1 : 1 ≤ i) (h8 : i ≤ 8) (h : l = pushW ++ pr i) : bgP l = some ([((31 + i : Nat) : Int)], i) := by
  subst h
  rw [pr_one (by omega) (by omega)]
  match i, h1, h8 with
  | 1, _, _ => rfl
  | 2, _, _ => rfl
  | 3, _, _ => rfl
  | 4, _, _ => rfl
  | 5, _, _ => rfl
  | 6, _, _ => rfl
  | 7, _, _ => rfl
  | 8, _, _ => rfl
  | n + 9, _, h => omega
theorem bg_rest {l : List Int} (hp : l ≠ pushW) (hb : l ≠ byteW) (hs : ∀ j, 1 ≤ j → j < 9 → l ≠ pushW ++ pr j) : bgP l = (tbl.find? fun r => decide (r.wd = l)).map fun r => ([(r.op : Int)], r.bh) := by
  unfold bgP
  rw [if_neg hp, if_neg hb]
  have hn : ((List.range 8).find? fun i => decide (l = pushW ++ [((49 + i : Nat) : Int)])) = none := by
    rw [List.find?_eq_none]
    intro i hi
    have hi8 := List.mem_range.1 hi
    have := hs (i + 1) (by omega) (by omega)
    rw [pr_one (by omega) (by omega), show 48 + (i + 1) = 49 + i by omega] at this
    simpa using this
  rw [hn]
theorem wd_at {l : List Int} {i : Nat} (hi : i < 29) (h : ∀ j, j < i → l ≠ (rdAt j).wd) (hy : l = (rdAt i).wd) : (tbl.find? fun r => decide (r.wd = l)) = some (rdAt i) := by
  have key : ∀ (L : List Rd) (i : Nat), i < L.length → (∀ j, j < i → l ≠ (L.getD j rd0).wd) → l = (L.getD i rd0).wd → L.find? (fun r => decide (r.wd = l)) = some (L.getD i rd0) := by
    intro L
    induction L with
    | nil => intro i hi; simp at hi
    | cons r L ih =>
      intro i hi h hy
      cases i with
      | zero => simp only [List.getD_cons_zero] at hy ⊢; exact List.find?_cons_of_pos (decide_eq_true hy.symm)
      | succ i =>
        have h0 := h 0 (by omega)
        simp only [List.getD_cons_zero] at h0
        rw [List.find?_cons_of_neg (by simpa using fun e => h0 e.symm), List.getD_cons_succ]
        exact ih i (by simpa using hi) (fun j hj => by have := h (j + 1) (by omega); simpa using this) (by simpa using hy)
  exact key tbl i hi h hy
theorem wd_no {l : List Int} (h : ∀ j, j < 29 → l ≠ (rdAt j).wd) : (tbl.find? fun r => decide (r.wd = l)) = none := by
  rw [List.find?_eq_none]
  intro r hr
  obtain ⟨i, hi, rfl⟩ := List.getElem_of_mem hr
  have := h i hi
  unfold rdAt at this
  rw [List.getD, List.getElem?_eq_getElem hi] at this
  simpa using fun e => this e.symm
theorem bg_small {l hd : List Int} {sz : Nat} (h : bgP l = some (hd, sz)) : sz ≤ 8 ∧ Byt hd ∧ hd.length ≤ 1 ∧ (hd = [] → 0 < sz) := by
  unfold bgP at h
  split at h
  · cases h; exact ⟨by omega, (fun x hx => absurd hx List.not_mem_nil), by simp, fun _ => by omega⟩
  · split at h
    · cases h; exact ⟨by omega, (fun x hx => absurd hx List.not_mem_nil), by simp, fun _ => by omega⟩
    · split at h
      · rename_i i hi
        have := List.mem_range.1 (List.mem_of_find?_eq_some hi)
        cases h
        exact ⟨by omega, (fun x hx => by rw [List.mem_singleton.1 hx]; omega), by simp, by simp⟩
      · cases hf : (tbl.find? fun r => decide (r.wd = l)) with
        | none => rw [hf] at h; cases h
        | some r =>
          rw [hf] at h
          cases h
          have key : ∀ r ∈ tbl, r.bh ≤ 8 ∧ r.op < 256 := by decide +kernel
          obtain ⟨h1, h2⟩ := key r (List.mem_of_find?_eq_some hf)
          exact ⟨h1, (fun x hx => by rw [List.mem_singleton.1 hx]; omega), by simp, by simp⟩
def RBg (w : World) (o : Option (List Int × Nat)) : Value → World → Prop := fun u w' => ∃ hv, u = .tuple #[hv, .int .i64 (((o.getD ([], 0)).2 : Nat) : Int), .bool o.isSome] ∧ OwnB w' w.heap.size hv (o.getD ([], 0)).1 ∧ Bl w w'
theorem OwnB.mono {w : World} {base b2 : Nat} {v : Value} {bs : List Int} (h : OwnB w base v bs) (hb : b2 ≤ base) : OwnB w b2 v bs := by
  obtain ⟨h1, h2⟩ := h
  refine ⟨h1, ?_⟩
  rcases h2 with h2 | ⟨k, cap, cur, hv, hg, r⟩
  · exact .inl h2
  · exact .inr ⟨k, cap, cur, hv, Nat.le_trans hb hg, r⟩
theorem ownB_nil (w : World) (base : Nat) : OwnB w base (.slice none 0 0) [] := ⟨rfl, .inl ⟨rfl, rfl⟩⟩
section
variable {l rest : List Int} {p pl : Nat} {hd : List Int} {sz m : Nat}
theorem st_no (h : bgP l = none) : stP l rest p pl = (([], pl, 140), rest, p) := by unfold stP; rw [h]
theorem st_0 (h : bgP l = some (hd, sz)) (h0 : sz = 0) : stP l rest p pl = ((hd, 0, 0), rest, p) := by unfold stP; rw [h]; simp only; rw [if_pos h0]
theorem st_bad (h : bgP l = some (hd, sz)) (h0 : sz ≠ 0) (hb : (ps (nxW rest)).2 = false ∨ sz < szo (ps (nxW rest)).1) : stP l rest p pl = (([], p + rn rest true, 141), nxR rest, p + rn rest true + (nxW rest).length) := by unfold stP; rw [h]; simp only; rw [if_neg h0, if_pos hb]
theorem st_push (h : bgP l = some (hd, sz)) (h0 : sz ≠ 0) (hb : ps (nxW rest) = (m, true)) (hs : ¬ sz < szo m) (hp : l = pushW) : stP l rest p pl = ((((31 + szo m : Nat) : Int) :: bek (szo m) m, 0, 0), nxR rest, p + rn rest true + (nxW rest).length) := by
  unfold stP
  rw [h]
  simp only
  rw [if_neg h0, hb, if_neg (fun h => h.elim (fun e => Bool.noConfusion e) hs), if_pos hp]
theorem st_ok (h : bgP l = some (hd, sz)) (h0 : sz ≠ 0) (hb : ps (nxW rest) = (m, true)) (hs : ¬ sz < szo m) (hp : l ≠ pushW) : stP l rest p pl = ((hd ++ bek sz m, 0, 0), nxR rest, p + rn rest true + (nxW rest).length) := by
  unfold stP
  rw [h]
  simp only
  rw [if_neg h0, hb, if_neg (fun h => h.elim (fun e => Bool.noConfusion e) hs), if_neg hp]
end
def RSt (g : Nat) (w : World) (q : (List Int × Nat × Int) × (List Int × Nat)) : Value → World → Prop := fun u w' => ∃ x n c, u = .tuple #[.slice x n c, .int .i64 ((q.1.2.1 : Nat) : Int), .int .i64 q.1.2.2] ∧ Ag w' x n c q.1.1 ∧ Rw g w' (txC q.2.1 q.2.2) 38 ∧ Touch g w w'
theorem st_rest (l rest : List Int) (p pl : Nat) : (stP l rest p pl).2 = (rest, p) ∨ (stP l rest p pl).2 = (nxR rest, p + rn rest true + (nxW rest).length) := by
  unfold stP
  split
  · exact .inl rfl
  · split
    · exact .inl rfl
    · split
      · exact .inr rfl
      · exact .inr rfl
theorem st_len (l rest : List Int) (p pl : Nat) : (stP l rest p pl).2.1.length ≤ rest.length ∧ (stP l rest p pl).2.2 + (stP l rest p pl).2.1.length = p + rest.length := by
  have := nxW_len rest
  rcases st_rest l rest p pl with h | h
  · rw [h]; exact ⟨Nat.le_refl _, rfl⟩
  · rw [h]; exact ⟨show (nxR rest).length ≤ _ by omega, show p + rn rest true + (nxW rest).length + (nxR rest).length = _ by omega⟩
theorem st_byt {l rest : List Int} {p pl : Nat} (hb : Byt rest) : Byt (stP l rest p pl).2.1 := by
  rcases st_rest l rest p pl with h | h <;> rw [h]
  · exact hb
  · exact (byt_nx hb).2.2
theorem as_fuel : ∀ (n m : Nat) (code rest : List Int) (p : Nat), rest.length < n → rest.length < m → asP n code rest p = asP m code rest p
  | 0, _, _, _, _, h, _ => by omega
  | _, 0, _, _, _, _, h => by omega
  | n + 1, m + 1, code, rest, p, h1, h2 => by
    simp only [asP]
    by_cases h0 : nxW rest = []
    · rw [if_pos h0, if_pos h0]
    · rw [if_neg h0, if_neg h0]
      have h3 := nxW_len rest
      have h4 : 0 < (nxW rest).length := List.length_pos_iff.2 h0
      have h5 := (st_len (nxW rest) (nxR rest) (p + rn rest true + (nxW rest).length) (p + rn rest true)).1
      rw [as_fuel n m _ _ _ (by omega) (by omega)]
def asF (code rest : List Int) (p : Nat) : List Int × Nat × Int := asP (rest.length + 1) code rest p
/-- The statement that a text begins with. -/
def s1 (rest : List Int) (p : Nat) := stP (nxW rest) (nxR rest) (p + rn rest true + (nxW rest).length) (p + rn rest true)
theorem s1_len {rest : List Int} {p : Nat} (h0 : nxW rest ≠ []) : (s1 rest p).2.1.length < rest.length ∧ (s1 rest p).2.2 + (s1 rest p).2.1.length = p + rest.length := by
  have h3 := nxW_len rest
  have h4 : 0 < (nxW rest).length := List.length_pos_iff.2 h0
  have h5 := st_len (nxW rest) (nxR rest) (p + rn rest true + (nxW rest).length) (p + rn rest true)
  unfold s1
  omega
theorem as_end {code rest : List Int} {p : Nat} (h : nxW rest = []) : asF code rest p = (code, 0, 0) := by unfold asF; rw [asP, if_pos h]
theorem as_err {code rest : List Int} {p : Nat} (h : nxW rest ≠ []) (he : (s1 rest p).1.2.2 ≠ 0) : asF code rest p = ([], (s1 rest p).1.2.1, (s1 rest p).1.2.2) := by unfold asF; rw [asP, if_neg h]; exact if_pos he
theorem as_long {code rest : List Int} {p : Nat} (h : nxW rest ≠ []) (he : (s1 rest p).1.2.2 = 0) (hl : 256 < code.length + (s1 rest p).1.1.length) : asF code rest p = ([], p + rn rest true, 142) := by
  unfold asF
  rw [asP, if_neg h]
  exact (if_neg (fun hh => hh he)).trans (if_pos hl)
theorem as_go {code rest : List Int} {p : Nat} (h : nxW rest ≠ []) (he : (s1 rest p).1.2.2 = 0) (hl : ¬ 256 < code.length + (s1 rest p).1.1.length) : asF code rest p = asF (code ++ (s1 rest p).1.1) (s1 rest p).2.1 (s1 rest p).2.2 := by
  have h1 := (s1_len (p := p) h).1
  unfold asF
  rw [asP, if_neg h]
  refine (if_neg (fun hh => hh he)).trans ((if_neg hl).trans ?_)
  exact as_fuel _ _ _ _ _ h1 (Nat.lt_succ_self _)
def RAs (w : World) (q : List Int × Nat × Int) : Value → World → Prop := fun u w' => ∃ x n c, u = .tuple #[.slice x n c, .int .i64 ((q.2.1 : Nat) : Int), .int .i64 q.2.2] ∧ Ag w' x n c q.1 ∧ Bl w w'
end Go.Proofs.YtbjjboicfghldabDoor

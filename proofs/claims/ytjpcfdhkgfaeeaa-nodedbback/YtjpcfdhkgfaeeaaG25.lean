/- A Put that is taken, and a Drop of its digest, change nothing: the law NodedbBack. -/
import Derived.Test.YtjpcfdhkgfaeeaaG24
namespace Go.Proofs.Ytjpcfdhkgfaeeaa
open Go.RowKit
open Di (dref dref_len)
set_option linter.unusedVariables false
set_option maxRecDepth 100000
theorem find_app_new {d : List Int} {x : Th} : ∀ {L : List Th}, findT d L = none → x.d = d → findT d (L ++ [x]) = some (L.length, x)
  | [], _, h => by simp [findT, h]
  | y :: r, hf, h => by
    unfold findT at hf
    by_cases hy : y.d = d
    · rw [if_pos hy] at hf; cases hf
    · rw [if_neg hy] at hf
      have : findT d r = none := by
        cases hq : findT d r with
        | none => rfl
        | some p => rw [hq] at hf; cases hf
      rw [List.cons_append]
      unfold findT
      rw [if_neg hy, find_app_new this h]
      rfl
theorem find_set {d : List Int} {x y : Th} : ∀ {L : List Th} {j : Nat}, findT d L = some (j, y) → x.d = d → findT d (L.set j x) = some (j, x)
  | [], j, h, _ => by simp [findT] at h
  | z :: r, j, h, hx => by
    unfold findT at h
    by_cases hz : z.d = d
    · rw [if_pos hz] at h
      cases h
      simp [findT, hx]
    · rw [if_neg hz] at h
      cases hq : findT d r with
      | none => rw [hq] at h; cases h
      | some p =>
        obtain ⟨i, u⟩ := p
        rw [hq] at h
        cases h
        rw [List.set_cons_succ]
        unfold findT
        rw [if_neg hz, find_set hq hx]
theorem put_not {most : Int} {s : ByteArray} {L : List Th} (h : (putP most s L).2.2 ≠ 0) : (putP most s L).1 = L := by
  unfold putP at h ⊢
  split
  · rename_i hf
    rw [hf] at h
    by_cases hm : most ≤ L.length
    · simp [hm]
    · simp [hm] at h
  · rename_i y hf
    rw [hf] at h
    by_cases h1 : y.s ≠ s
    · simp [h1]
    · by_cases h2 : 4294967295 ≤ y.r
      · simp [h1, h2]
      · simp [h1, h2] at h
theorem put_back {most : Int} {s : ByteArray} {L : List Th} (hr : Rng L) (h : (putP most s L).2.2 = 0) : dropT (putP most s L).2.1 (putP most s L).1 = (L, decide (atT (putP most s L).2.1 L < 0), 0) := by
  cases hf : findT (dref (nums s)) L with
  | none =>
    by_cases hm : most ≤ L.length
    · unfold putP at h; rw [hf] at h; simp [hm] at h
    · have hp : putP most s L = (L ++ [⟨dref (nums s), s, 1⟩], dref (nums s), 0) := by
        unfold putP putT
        rw [hf]
        simp [hm]
      have hn := find_app_new (x := ⟨dref (nums s), s, 1⟩) hf rfl
      rw [hp]
      simp only
      unfold dropT atT
      rw [hn, hf]
      simp only [Int.sub_self, Int.lt_irrefl, if_false]
      unfold delT
      rw [hn]
      simp only
      rw [List.eraseIdx_append_of_length_le (Nat.le_refl _)]
      simp
  | some p =>
    obtain ⟨j, y⟩ := p
    obtain ⟨hj, hyd⟩ := findT_some hf
    by_cases h1 : y.s ≠ s
    · unfold putP at h; rw [hf] at h; simp [h1] at h
    by_cases h2 : 4294967295 ≤ y.r
    · unfold putP at h; rw [hf] at h; simp [h1, h2] at h
    have hp : putP most s L = (L.set j ⟨dref (nums s), s, y.r + 1⟩, dref (nums s), 0) := by
      unfold putP putT
      simp [hf, h1, h2]
    have hys : y.s = s := by simpa using h1
    have hyr := hr.find hf
    have hn := find_set (x := ⟨dref (nums s), s, y.r + 1⟩) hf rfl
    rw [hp]
    simp only
    unfold dropT atT
    rw [hn, hf]
    simp only
    rw [if_pos (by omega)]
    unfold putT
    simp only
    rw [hn]
    simp only [List.set_set]
    have e2 : (⟨dref (nums s), s, y.r + 1 - 1⟩ : Th) = y := by rw [← hyd, ← hys, show y.r + 1 - 1 = y.r from by omega]
    rw [e2]
    obtain ⟨hl, hv⟩ := List.getElem?_eq_some_iff.1 hj
    have e3 : L.set j y = L := by rw [← hv, List.set_getElem_self]
    rw [e3, decide_eq_false (by omega)]
theorem find_self : ∀ {L : List Th} {j : Nat} {x : Th}, (L.map Th.d).Nodup → L[j]? = some x → findT x.d L = some (j, x)
  | [], j, x, _, h => by simp at h
  | y :: r, 0, x, _, h => by simp at h; subst h; simp [findT]
  | y :: r, j + 1, x, hn, h => by
    rw [List.map_cons, List.nodup_cons] at hn
    have hx : x ∈ r := List.mem_of_getElem? (by simpa using h)
    have hne : ¬ y.d = x.d := fun e => hn.1 (by rw [e]; exact List.mem_map_of_mem hx)
    unfold findT
    rw [if_neg hne, find_self hn.2 (by simpa using h)]
theorem get_self {L : List Th} {j : Nat} {x : Th} (hn : (L.map Th.d).Nodup) (h : L[j]? = some x) : getT x.d L = (x.s, x.r, true) := by unfold getT; rw [find_self hn h]
def zon : Array Value := B8 z32 ++ #[.string ⟨#[]⟩, .int .i64 0]
theorem on_size {x : Th} (h : x.d.length = 32) : x.cells.toArray.size = 34 := by rw [List.size_toArray, Th.clen h]
theorem on_ones (x : Th) : x.cells.toArray.all (·.oneCell') = true := by
  rw [Array.all_eq_true_iff_forall_mem]
  intro u hu
  exact Th.one x u (by simpa using hu)
theorem on_dig {x : Th} {v : World} {g : Nat} (h : v.heap[g]? = some (.cells x.cells.toArray 60 (0, 0))) : v.rangeAt g 0 (x.d.map (Value.int .u8)) := fun j u hu => by
  rw [cell_of_row _ _ _ _ _ _ h, Nat.zero_add, List.getElem?_toArray, Th.cells, List.getElem?_append_left (List.getElem?_eq_some_iff.1 hu).1]; exact hu
theorem on_c32 {x : Th} {v : World} {g : Nat} (hl : x.d.length = 32) (h : v.heap[g]? = some (.cells x.cells.toArray 60 (0, 0))) : v.cell? ⟨g, 32, none⟩ = some (.string x.s) := by rw [cell_of_row _ _ _ _ _ _ h, List.getElem?_toArray]; exact Th.c32 hl
theorem on_c33 {x : Th} {v : World} {g : Nat} (hl : x.d.length = 32) (h : v.heap[g]? = some (.cells x.cells.toArray 60 (0, 0))) : v.cell? ⟨g, 33, none⟩ = some (.int .i64 x.r) := by rw [cell_of_row _ _ _ _ _ _ h, List.getElem?_toArray]; exact Th.c33 hl
theorem ol_neb {P : Program} {ρ : Operand → Value} {w : World} {o : Oper} (T : TypeId) (x y : Operand) (r : TypeId) (p q : Bool) {b : Bool} (ho : o.op = .binOp .neq T x y r) (hx : ρ x = .bool p) (hy : ρ y = .bool q) (hb : (!(p == q)) = b) (hu : P.underlying T = some .bool := by rfl) : (execOp ρ o).run P w = .ok (.value (.bool b)) w := by
  subst hb
  unfold execOp
  rw [ho]
  simp only [hx, hy]
  go_simp
set_option maxHeartbeats 4000000 in
theorem back_law (most : Int) (a : Option Addr) (n c : Nat) (xs : List Cl) (tx : ByteArray) (htx : tx.size ≤ 140737488351232) (W : World) (hC : Cs W a n c xs) :
    Calls Try.prog 6 #[.int .i64 most, .slice a n c, .string tx] W fun e W' => e = .returned (.bool true) ∧ Below W.heap.size W W' := by
  have hnl := hC.le
  refine cw_enter Try.func6 rfl 116 rfl ?_
  show CW _ _ _ _ _ _ _ [(0, .int .i64 most), (1, .slice a n c), (2, .string tx)] _
  refine cw_seq ?_
  refine cw_region ?_
  refine rw_p 6 (.bool false) (fun _ => by kernel_rfl) (fun _ => by kernel_rfl) ?_
  refine rw_nil ?_
  refine nw_then ?_
  refine cw_seq ?_
  refine cw_region ?_
  refine rw_p 22 (.int .i64 most) (fun _ => by kernel_rfl) (fun _ => by kernel_rfl) ?_
  refine rw_call 23 9 #[.int .i64 most] (fun _ => by kernel_rfl) (fun _ => by kernel_rfl) (R := fun val w' => ∃ g m, val = .tuple #[.pointer (some ⟨g, 0, none⟩), .bool true] ∧ Sto w' g m most [] ∧ W.heap.size ≤ g ∧ W.heap.size ≤ m ∧ Below W.heap.size W w') ((begun_any most W).mono (fun e w' h => by obtain ⟨⟨g, m, rfl, h1, h2, h3⟩, hb⟩ := h; exact ⟨_, rfl, g, m, rfl, h1, h2, h3, hb⟩)) ?_
  rintro val u1 ⟨g0, m0, rfl, hst0, hg0, hm0, hb0⟩
  refine rw_p 21 (.tuple #[.pointer (some ⟨g0, 0, none⟩), .bool true]) (fun _ => by kernel_rfl) (fun _ => by kernel_rfl) ?_
  refine rw_p 24 (.pointer (some ⟨g0, 0, none⟩)) (fun _ => by kernel_rfl) (fun _ => by kernel_rfl) ?_
  refine rw_p 25 (.bool true) (fun _ => by kernel_rfl) (fun _ => by kernel_rfl) ?_
  refine rw_p 7 (.pointer (some ⟨g0, 0, none⟩)) (fun _ => by kernel_rfl) (fun _ => by kernel_rfl) ?_
  refine rw_p 8 (.bool true) (fun _ => by kernel_rfl) (fun _ => by kernel_rfl) ?_
  refine rw_nil ?_
  refine nw_then ?_
  refine cw_seq ?_
  refine cw_seq ?_
  refine cw_region ?_
  refine rw_p 26 (.bool true) (fun _ => by kernel_rfl) (fun _ => by kernel_rfl) ?_
  refine rw_p 27 (.bool false) (fun _ => by kernel_rfl) (fun _ => by kernel_rfl) ?_
  refine rw_nil ?_
  refine nw_then ?_
  refine cw_cond_f (fun _ => by kernel_rfl) ?_
  refine cw_skip ?_
  refine nw_then ?_
  refine cw_seq ?_
  refine cw_region ?_
  refine rw_p 28 (.int .i64 most) (fun _ => by kernel_rfl) (fun _ => by kernel_rfl) ?_
  refine rw_p 29 (.agg #[.int .i64 most, .slice none 0 0]) (fun _ => by kernel_rfl) (fun _ => ol_build 28 _ [(0, .int .i64 most)] _ rfl (by kernel_rfl) (congrFun built_RSg most)) ?_
  refine rw_new 9 #[.int .i64 0, .slice none 0 0] 28 (fun _ => by kernel_rfl) (fun _ => by kernel_rfl) ?_
  intro uA gr hnA
  refine rw_put gr #[.int .i64 most, .slice none 0 0] (fun _ => by kernel_rfl) (fun _ => ol_store 28 _ _ _ _ _ _ rfl (by kernel_rfl) (by kernel_rfl) hnA.row (by kernel_rfl) rfl (s_one _ _ _ _)) ?_
  intro uB hpB
  have hnB := hnA.put hpB
  have hA0 : Al W uB g0 m0 gr most [] none 0 0 := ⟨hst0.go hnB.below, hnB.row, ⟨rfl, ⟨Nat.le_refl _, by unfold maxLen; omega⟩, fun _ => ⟨rfl, rfl⟩, fun j x h => by simp at h, fun x hx => by cases hx⟩, iv_nil, below_go hb0 hnB.below, ⟨hg0, hm0, by have h1 := hnB.hg; have h2 := hb0.size; omega⟩, by have h1 := hnB.hg; have h2 := hst0.lts; omega⟩
  refine rw_nil ?_
  refine nw_then ?_
  refine cw_seq ?_
  refine cw_seq ?_
  refine cw_region ?_
  refine rw_p 30 (.slice a n c) (fun _ => by kernel_rfl) (fun _ => by kernel_rfl) ?_
  refine rw_p 31 (.int .i64 n) (fun _ => by kernel_rfl) (fun _ => by kernel_rfl) ?_
  refine rw_p 32 (.int .i64 0) (fun _ => by kernel_rfl) (fun _ => by kernel_rfl) ?_
  refine rw_nil ?_
  refine nw_then ?_
  refine cw_block ?_
  refine cw_loop (X := (Nat × (Nat × Nat) × List Th × Option Addr × Nat × Nat)) (fun x : (Nat × (Nat × Nat) × List Th × Option Addr × Nat × Nat) => [(7, .pointer (some ⟨x.2.1.1, 0, none⟩)), (9, .pointer (some ⟨gr, 0, none⟩)), (30, .slice a n c), (31, .int .i64 ((n : Nat) : Int)), (32, .int .i64 ((x.1 : Nat) : Int)), (2, .string tx)]) (fun (x : (Nat × (Nat × Nat) × List Th × Option Addr × Nat × Nat)) v => Al W v x.2.1.1 x.2.1.2 gr most x.2.2.1 x.2.2.2.1 x.2.2.2.2.1 x.2.2.2.2.2 ∧ x.2.2.1.length ≤ x.1 ∧ x.1 ≤ n) (fun x => n - x.1) (0, (g0, m0), [], none, 0, 0) (by exact ⟨fun _ => by kernel_rfl, ⟨fun _ => by kernel_rfl, ⟨fun _ => by kernel_rfl, ⟨fun _ => by kernel_rfl, ⟨fun _ => by kernel_rfl, ⟨fun _ => by kernel_rfl, trivial⟩⟩⟩⟩⟩⟩) ⟨hA0, Nat.le_refl _, Nat.zero_le _⟩ ?_
  rintro ⟨k, ⟨g, m⟩, L, a', n', c'⟩ v ⟨hA, hLk, hkn⟩
  simp only at hA hLk hkn ⊢
  by_cases hlt : k < n
  · skip
    obtain ⟨x, hx⟩ : ∃ x, xs[k]? = some x := ⟨_, List.getElem?_eq_getElem (by rw [← hC.l]; exact hlt)⟩
    obtain ⟨gx, off, rfl, _⟩ := hC.rows k x hx
    have hxo := hC.ok x (List.mem_of_getElem? hx)
    refine cw_seq ?_
    refine cw_region ?_
    refine rw_p 33 (.bool true) (fun _ => by kernel_rfl) (fun _ => ol_conv (v := .bool (decide (((k : Nat) : Int) < ((n : Nat) : Int)))) (by kernel_rfl) (congrArg Value.bool (decide_eq_true (by omega)))) ?_
    refine rw_nil ?_
    refine nw_then ?_
    refine cw_seq ?_
    refine cw_cond_t (fun _ => by kernel_rfl) ?_
    refine cw_skip ?_
    refine nw_then ?_
    refine cw_seq ?_
    refine cw_block ?_
    refine cw_seq ?_
    refine cw_region ?_
    refine rw_p 34 (.pointer (some ⟨gx, off + k * 35, none⟩)) (fun _ => by kernel_rfl) (fun _ => ol_index 22 _ _ gx off k n c 35 32 rfl (by kernel_rfl) (by kernel_rfl) hlt Try.underlying22 (by kernel_rfl)) ?_
    refine rw_p 35 (.agg x.cells.toArray) (fun _ => by kernel_rfl) (fun _ => ol_op hC hA.bel hx _ rfl (by kernel_rfl)) ?_
    refine rw_new 11 zop 32 (fun _ => by kernel_rfl) (fun _ => by kernel_rfl) ?_
    intro vA go hnO
    refine rw_put go x.cells.toArray (fun _ => by kernel_rfl) (fun _ => ol_store 32 _ _ _ _ _ _ rfl (by kernel_rfl) (by kernel_rfl) hnO.row (by rw [op_size hxo.1]; kernel_rfl) (by rw [op_size hxo.1]; rfl) (op_ones x)) ?_
    intro vB hpO
    have hnb := hnO.put hpO
    have hA1 := hA.go hnb.below
    have hO : CBx go vB x := hnb.row
    refine rw_nil ?_
    refine nw_then ?_
    refine cw_seq ?_
    refine cw_region ?_
    refine rw_p 36 (.pointer (some ⟨go, 0, none⟩)) (fun _ => by kernel_rfl) (fun _ => by kernel_rfl) ?_
    refine rw_p 37 (.int .i64 x.k) (fun _ => by kernel_rfl) (fun _ => ol_cell 3 _ _ _ _ rfl (by kernel_rfl) hO.c0 Try.underlying3 rfl) ?_
    refine rw_p 38 (.bool (decide ((x.k : Int) < (5 : Int)))) (fun _ => by kernel_rfl) (fun _ => by kernel_rfl) ?_
    refine rw_nil ?_
    refine nw_then ?_
    cases hq2 : (decide ((x.k : Int) < (5 : Int))) with
    | true =>
      refine cw_cond_t (fun _ => by kernel_rfl) ?_
      refine cw_seq ?_
      refine cw_region ?_
      refine rw_p 40 (.pointer (some ⟨g, 0, none⟩)) (fun _ => by kernel_rfl) (fun _ => by kernel_rfl) ?_
      refine rw_p 41 (.agg #[.int .i64 most, .slice a' n' c']) (fun _ => by kernel_rfl) (fun _ => ol_row 28 _ _ _ _ _ _ rfl (by kernel_rfl) hA1.rb Try.underlying28 rfl (by kernel_rfl)) ?_
      refine rw_p 42 (.agg x.cells.toArray) (fun _ => by kernel_rfl) (fun _ => ol_row 32 _ _ _ _ _ _ rfl (by kernel_rfl) hO Try.underlying32 rfl (by rw [op_size hxo.1]; kernel_rfl)) ?_
      refine rw_call 43 11 #[.pointer (some ⟨g, 0, none⟩), .agg #[.int .i64 most, .slice a' n' c'], .agg x.cells.toArray] (fun _ => by kernel_rfl) (fun _ => by kernel_rfl) (R := fun val w' => (∃ a2 n2 c2, val = .tuple #[.agg #[.int .i64 most, .slice a2 n2 c2], .bool true] ∧ Ls w' a2 n2 c2 (stepL most x L)) ∧ Sto w' g m most (stepL most x L) ∧ Touch m vB w') ((step_any hA1.st hA1.ls hA1.iv x hxo.1 hxo.2 (by rw [hA1.len]; omega)).mono (fun e w' h => by obtain ⟨⟨a2, n2, c2, rfl, h1⟩, h2⟩ := h; exact ⟨_, rfl, ⟨a2, n2, c2, rfl, h1⟩, h2⟩)) ?_
      rintro val u3 ⟨⟨a2, n2, c2, rfl, hls2⟩, hst2, ht2⟩
      refine rw_p 39 (.tuple #[.agg #[.int .i64 most, .slice a2 n2 c2], .bool true]) (fun _ => by kernel_rfl) (fun _ => by kernel_rfl) ?_
      refine rw_p 44 (.agg #[.int .i64 most, .slice a2 n2 c2]) (fun _ => by kernel_rfl) (fun _ => by kernel_rfl) ?_
      refine rw_p 45 (.bool true) (fun _ => by kernel_rfl) (fun _ => by kernel_rfl) ?_
      refine rw_put gr #[.int .i64 most, .slice a2 n2 c2] (fun _ => by kernel_rfl) (fun _ => ol_store 28 _ _ _ _ _ _ rfl (by kernel_rfl) (by kernel_rfl) (ht2.row hA1.rb hA1.ne.2) (by kernel_rfl) rfl (s_one _ _ _ _)) ?_
      intro vD hpD
      have hA2 := hA1.step hst2 hls2 ht2 (stepL_iv hA1.iv hxo.1 hxo.2) hpD
      refine rw_p 8 (.bool true) (fun _ => by kernel_rfl) (fun _ => by kernel_rfl) ?_
      refine rw_nil ?_
      refine nw_then ?_
      refine cw_seq ?_
      refine cw_region ?_
      refine rw_p 46 (.bool true) (fun _ => by kernel_rfl) (fun _ => by kernel_rfl) ?_
      refine rw_p 47 (.bool false) (fun _ => by kernel_rfl) (fun _ => by kernel_rfl) ?_
      refine rw_nil ?_
      refine nw_then ?_
      refine cw_cond_f (fun _ => by kernel_rfl) ?_
      refine cw_skip ?_
      refine nw_block ?_
      refine nw_then ?_
      refine cw_region ?_
      refine rw_p 48 (.int .i64 (((k : Nat) : Int) + 1)) (fun _ => by kernel_rfl) (fun _ => ol_conv (v := .int .i64 (IntKind.i64.wrap (((k : Nat) : Int) + 1))) (by kernel_rfl) (congrArg (Value.int .i64) (wrap64 (by omega) (by omega)))) ?_
      refine rw_p 32 (.int .i64 (((k : Nat) : Int) + 1)) (fun _ => by kernel_rfl) (fun _ => by kernel_rfl) ?_
      refine rw_nil ?_
      exact nw_round (E := fun x : (Nat × (Nat × Nat) × List Th × Option Addr × Nat × Nat) => [(7, .pointer (some ⟨x.2.1.1, 0, none⟩)), (9, .pointer (some ⟨gr, 0, none⟩)), (30, .slice (some ⟨gx, off, none⟩) n c), (31, .int .i64 ((n : Nat) : Int)), (32, .int .i64 ((x.1 : Nat) : Int)), (2, .string tx)]) (R := fun (x : (Nat × (Nat × Nat) × List Th × Option Addr × Nat × Nat)) v => Al W v x.2.1.1 x.2.1.2 gr most x.2.2.1 x.2.2.2.1 x.2.2.2.2.1 x.2.2.2.2.2 ∧ x.2.2.1.length ≤ x.1 ∧ x.1 ≤ n) (μ := fun x => n - x.1) (x := (k, (g, m), L, a', n', c')) (k + 1, (g, m), stepL most x L, a2, n2, c2) (by exact ⟨fun _ => by kernel_rfl, ⟨fun _ => by kernel_rfl, ⟨fun _ => by kernel_rfl, ⟨fun _ => by kernel_rfl, ⟨fun _ => by kernel_rfl, ⟨fun _ => by kernel_rfl, trivial⟩⟩⟩⟩⟩⟩) ⟨hA2, by have := stepL_len most x L; simp only; omega, by simp only; omega⟩ (by simp only; omega)
    | false =>
      refine cw_cond_f (fun _ => by kernel_rfl) ?_
      refine cw_skip ?_
      refine nw_block ?_
      refine nw_then ?_
      refine cw_region ?_
      refine rw_p 48 (.int .i64 (((k : Nat) : Int) + 1)) (fun _ => by kernel_rfl) (fun _ => ol_conv (v := .int .i64 (IntKind.i64.wrap (((k : Nat) : Int) + 1))) (by kernel_rfl) (congrArg (Value.int .i64) (wrap64 (by omega) (by omega)))) ?_
      refine rw_p 32 (.int .i64 (((k : Nat) : Int) + 1)) (fun _ => by kernel_rfl) (fun _ => by kernel_rfl) ?_
      refine rw_nil ?_
      exact nw_round (E := fun x : (Nat × (Nat × Nat) × List Th × Option Addr × Nat × Nat) => [(7, .pointer (some ⟨x.2.1.1, 0, none⟩)), (9, .pointer (some ⟨gr, 0, none⟩)), (30, .slice (some ⟨gx, off, none⟩) n c), (31, .int .i64 ((n : Nat) : Int)), (32, .int .i64 ((x.1 : Nat) : Int)), (2, .string tx)]) (R := fun (x : (Nat × (Nat × Nat) × List Th × Option Addr × Nat × Nat)) v => Al W v x.2.1.1 x.2.1.2 gr most x.2.2.1 x.2.2.2.1 x.2.2.2.2.1 x.2.2.2.2.2 ∧ x.2.2.1.length ≤ x.1 ∧ x.1 ≤ n) (μ := fun x => n - x.1) (x := (k, (g, m), L, a', n', c')) (k + 1, (g, m), L, a', n', c') (by exact ⟨fun _ => by kernel_rfl, ⟨fun _ => by kernel_rfl, ⟨fun _ => by kernel_rfl, ⟨fun _ => by kernel_rfl, ⟨fun _ => by kernel_rfl, ⟨fun _ => by kernel_rfl, trivial⟩⟩⟩⟩⟩⟩) ⟨hA1, by simp only; omega, by simp only; omega⟩ (by simp only; omega)
  refine cw_seq ?_
  refine cw_region ?_
  refine rw_p 33 (.bool false) (fun _ => by kernel_rfl) (fun _ => ol_conv (v := .bool (decide (((k : Nat) : Int) < ((n : Nat) : Int)))) (by kernel_rfl) (congrArg Value.bool (decide_eq_false (by omega)))) ?_
  refine rw_nil ?_
  refine nw_then ?_
  refine cw_seq ?_
  refine cw_cond_f (fun _ => by kernel_rfl) ?_
  refine cw_exit ?_
  refine nw_exit_then ?_
  refine nw_exit_then ?_
  refine nw_exit_here ?_
  refine nw_then ?_
  refine cw_seq ?_
  refine cw_region ?_
  refine rw_p 50 (.pointer (some ⟨g, 0, none⟩)) (fun _ => by kernel_rfl) (fun _ => by kernel_rfl) ?_
  refine rw_p 51 (.string tx) (fun _ => by kernel_rfl) (fun _ => by kernel_rfl) ?_
  obtain ⟨⟨L2, d2, e2⟩, hpp⟩ : ∃ y, putP most tx L = y := ⟨_, rfl⟩
  have hd2 : d2.length = 32 := by have := putP_len most tx L; rw [hpp] at this; exact this
  have hput := put_any hA.st hA.iv.rng hA.iv.szs tx htx
  rw [hpp] at hput
  refine rw_call 52 17 #[.pointer (some ⟨g, 0, none⟩), .string tx] (fun _ => by kernel_rfl) (fun _ => by kernel_rfl) (R := fun val w' => val = .tuple #[.agg (B8 d2), .int .i64 e2] ∧ Sto w' g m most L2 ∧ Touch m v w') (hput.mono (fun e w' h => ⟨_, h.1, rfl, h.2⟩)) ?_
  rintro val u4 ⟨rfl, hst2, ht2⟩
  have hP2 : ∀ L3, Sto u4 g m most L3 → True := fun _ _ => trivial
  refine rw_p 49 (.tuple #[.agg (B8 d2), .int .i64 e2]) (fun _ => by kernel_rfl) (fun _ => by kernel_rfl) ?_
  refine rw_p 53 (.agg (B8 d2)) (fun _ => by kernel_rfl) (fun _ => by kernel_rfl) ?_
  refine rw_p 54 (.int .i64 e2) (fun _ => by kernel_rfl) (fun _ => by kernel_rfl) ?_
  refine rw_new 12 (B8 z32) 30 (fun _ => by kernel_rfl) (fun _ => by kernel_rfl) ?_
  intro vA gd hnA2
  refine rw_put gd (B8 d2) (fun _ => by kernel_rfl) (fun _ => ol_store 30 _ _ _ _ _ _ rfl (by kernel_rfl) (by kernel_rfl) hnA2.row (infoD d2 hd2) (z8_size hd2) (B8_ones _)) ?_
  intro vB2 hpB2
  have hnD := hnA2.put hpB2
  replace hst2 := hst2.go hnD.below
  replace ht2 := ht2.trans (Touch.of_below hnD.below)
  have hdb : vB2.heap[gd]? = some (.cells (B8 d2) 30 (0, 0)) := hnD.row
  have hgdm : gd ≠ m := by have h1 := hnD.hg; have h2 := (hst2.lts).2; have h3 := hA.st.lts.2; have h4 := hA.bel.size; intro q; subst q; have h5 := hdb; obtain ⟨_, es, clk, hmm, _⟩ := hst2.mp; rw [hmm] at h5; cases h5
  refine rw_p 13 (.int .i64 e2) (fun _ => by kernel_rfl) (fun _ => by kernel_rfl) ?_
  refine rw_nil ?_
  refine nw_then ?_
  by_cases he0 : e2 = 0
  · skip
    subst he0
    have hbk := put_back (most := most) (s := tx) hA.iv.rng (by rw [hpp])
    rw [hpp] at hbk
    simp only at hbk
    refine cw_seq ?_
    refine cw_seq ?_
    refine cw_region ?_
    refine rw_p 55 (.int .i64 0) (fun _ => by kernel_rfl) (fun _ => by kernel_rfl) ?_
    refine rw_p 56 (.bool true) (fun _ => by kernel_rfl) (fun _ => by kernel_rfl) ?_
    refine rw_nil ?_
    refine nw_then ?_
    refine cw_cond_t (fun _ => by kernel_rfl) ?_
    refine cw_seq ?_
    refine cw_region ?_
    refine rw_p 58 (.pointer (some ⟨g, 0, none⟩)) (fun _ => by kernel_rfl) (fun _ => by kernel_rfl) ?_
    refine rw_p 59 (.agg (B8 d2)) (fun _ => by kernel_rfl) (fun _ => ol_row 30 _ _ _ _ _ _ rfl (by kernel_rfl) hdb Try.underlying30 rfl (infoD d2 hd2)) ?_
    have hiv2 : Iv L2 := by have := hA.iv.putP most htx; rw [hpp] at this; exact this
    have hdr := drop_any hst2 hiv2.rng d2 hd2
    rw [hbk] at hdr
    refine rw_call 60 21 #[.pointer (some ⟨g, 0, none⟩), .agg (B8 d2)] (fun _ => by kernel_rfl) (fun _ => by kernel_rfl) (R := fun val w' => val = .tuple #[.bool (decide (atT d2 L < 0)), .int .i64 0] ∧ Sto w' g m most L ∧ Touch m vB2 w') (hdr.mono (fun e w' h => ⟨_, h.1, rfl, h.2⟩)) ?_
    rintro val u5 ⟨rfl, hst3, ht3⟩
    have ht4 := ht2.trans ht3
    replace hdb := ht3.row hdb hgdm
    have hA3 : Al W u5 g m gr most L a' n' c' := ⟨hst3, ht4.row hA.rb hA.ne.2, hA.ls.touch hA.st.mp ht4, hA.iv, touch_below hA.bel ht4 hA.hg.2.1, hA.hg, hA.ne⟩
    refine rw_p 57 (.tuple #[.bool (decide (atT d2 L < 0)), .int .i64 0]) (fun _ => by kernel_rfl) (fun _ => by kernel_rfl) ?_
    refine rw_p 61 (.bool (decide (atT d2 L < 0))) (fun _ => by kernel_rfl) (fun _ => by kernel_rfl) ?_
    refine rw_p 62 (.int .i64 0) (fun _ => by kernel_rfl) (fun _ => by kernel_rfl) ?_
    refine rw_p 14 (.bool (decide (atT d2 L < 0))) (fun _ => by kernel_rfl) (fun _ => by kernel_rfl) ?_
    refine rw_p 15 (.int .i64 0) (fun _ => by kernel_rfl) (fun _ => by kernel_rfl) ?_
    refine rw_nil ?_
    refine nw_then ?_
    refine cw_seq ?_
    refine cw_region ?_
    refine rw_p 63 (.int .i64 0) (fun _ => by kernel_rfl) (fun _ => by kernel_rfl) ?_
    refine rw_p 64 (.bool false) (fun _ => by kernel_rfl) (fun _ => by kernel_rfl) ?_
    refine rw_p 65 (.bool false) (fun _ => by kernel_rfl) (fun _ => by kernel_rfl) ?_
    refine rw_p 66 (.bool (decide (atT d2 L < 0))) (fun _ => by kernel_rfl) (fun _ => by kernel_rfl) ?_
    refine rw_p 67 (.agg #[.int .i64 most, .slice a' n' c']) (fun _ => by kernel_rfl) (fun _ => ol_row 28 _ _ _ _ _ _ rfl (by kernel_rfl) hA3.rb Try.underlying28 rfl (by kernel_rfl)) ?_
    refine rw_p 68 (.agg (B8 d2)) (fun _ => by kernel_rfl) (fun _ => ol_row 30 _ _ _ _ _ _ rfl (by kernel_rfl) hdb Try.underlying30 rfl (infoD d2 hd2)) ?_
    refine rw_call 69 22 #[.agg #[.int .i64 most, .slice a' n' c'], .agg (B8 d2)] (fun _ => by kernel_rfl) (fun _ => by kernel_rfl) (R := fun val w' => val = .int .i64 (atT d2 L) ∧ Below u5.heap.size u5 w') ((rat_any most a' n' c' L d2 hd2 u5 hA3.ls (by rw [hA3.len]; omega)).mono (fun e w' h => ⟨_, h.1, rfl, h.2⟩)) ?_
    rintro val u6 ⟨rfl, hb7⟩
    replace hA3 := hA3.go hb7
    refine rw_p 70 (.bool (decide ((atT d2 L : Int) < (0 : Int)))) (fun _ => by kernel_rfl) (fun _ => by kernel_rfl) ?_
    refine rw_p 71 (.bool false) (fun _ => by kernel_rfl) (fun _ => ol_neb 4 _ _ _ (decide (atT d2 L < 0)) (decide ((atT d2 L : Int) < (0 : Int))) rfl (by kernel_rfl) (by kernel_rfl) (by simp)) ?_
    refine rw_p 72 (.bool false) (fun _ => by kernel_rfl) (fun _ => by kernel_rfl) ?_
    refine rw_nil ?_
    refine nw_then ?_
    refine cw_cond_f (fun _ => by kernel_rfl) ?_
    refine cw_skip ?_
    refine nw_then ?_
    refine cw_seq ?_
    refine cw_seq ?_
    refine cw_region ?_
    refine rw_p 73 (.pointer (some ⟨gr, 1, none⟩)) (fun _ => by kernel_rfl) (fun _ => by kernel_rfl) ?_
    refine rw_p 74 (.slice a' n' c') (fun _ => by kernel_rfl) (fun _ => ol_cell 26 _ _ _ _ rfl (by kernel_rfl) hA3.rb.c1 Try.underlying26 rfl) ?_
    refine rw_p 75 (.int .i64 n') (fun _ => by kernel_rfl) (fun _ => by kernel_rfl) ?_
    refine rw_p 76 (.int .i64 0) (fun _ => by kernel_rfl) (fun _ => by kernel_rfl) ?_
    refine rw_nil ?_
    refine nw_then ?_
    refine cw_block ?_
    have hAz := hA3
    clear hA3
    refine cw_loop (X := Nat) (fun k : Nat => [(7, .pointer (some ⟨g, 0, none⟩)), (9, .pointer (some ⟨gr, 0, none⟩)), (74, .slice a' n' c'), (75, .int .i64 ((n' : Nat) : Int)), (76, .int .i64 ((k : Nat) : Int))]) (fun (k : Nat) v => Al W v g m gr most L a' n' c' ∧ k ≤ n') (fun k => n' - k) 0 (by exact ⟨fun _ => by kernel_rfl, ⟨fun _ => by kernel_rfl, ⟨fun _ => by kernel_rfl, ⟨fun _ => by kernel_rfl, ⟨fun _ => by kernel_rfl, trivial⟩⟩⟩⟩⟩) ⟨hAz, Nat.zero_le _⟩ ?_
    clear hAz
    rintro k v3 ⟨hA3, hkn2⟩
    have hnn := hA3.len
    by_cases hlt2 : k < n'
    · skip
      obtain ⟨x, hx⟩ : ∃ x, L[k]? = some x := ⟨_, List.getElem?_eq_getElem (by rw [← hA3.len]; exact hlt2)⟩
      obtain ⟨gx, off, rfl, _⟩ := hA3.ls.rows k x hx
      have hxl : x.d.length = 32 := hA3.iv.lens x (List.mem_of_getElem? hx)
      refine cw_seq ?_
      refine cw_region ?_
      refine rw_p 77 (.bool true) (fun _ => by kernel_rfl) (fun _ => ol_conv (v := .bool (decide (((k : Nat) : Int) < ((n' : Nat) : Int)))) (by kernel_rfl) (congrArg Value.bool (decide_eq_true (by omega)))) ?_
      refine rw_nil ?_
      refine nw_then ?_
      refine cw_seq ?_
      refine cw_cond_t (fun _ => by kernel_rfl) ?_
      refine cw_skip ?_
      refine nw_then ?_
      refine cw_seq ?_
      refine cw_block ?_
      refine cw_seq ?_
      refine cw_region ?_
      refine rw_p 78 (.pointer (some ⟨gx, off + k * 34, none⟩)) (fun _ => by kernel_rfl) (fun _ => ol_index 26 _ _ gx off k n' c' 34 60 rfl (by kernel_rfl) (by kernel_rfl) hlt2 Try.underlying26 (by kernel_rfl)) ?_
      refine rw_p 79 (.agg x.cells.toArray) (fun _ => by kernel_rfl) (fun _ => ol_mid 60 _ _ _ _ _ rfl (by kernel_rfl) (hA3.ls.rng hx) Try.underlying60 rfl (by rw [Th.clen hxl]; kernel_rfl)) ?_
      refine rw_new 17 zon 60 (fun _ => by kernel_rfl) (fun _ => by kernel_rfl) ?_
      intro vE go hnE
      refine rw_put go x.cells.toArray (fun _ => by kernel_rfl) (fun _ => ol_store 60 _ _ _ _ _ _ rfl (by kernel_rfl) (by kernel_rfl) hnE.row (by rw [on_size hxl]; kernel_rfl) (by rw [on_size hxl]; rfl) (on_ones x)) ?_
      intro vF hpF
      have hnF := hnE.put hpF
      replace hA3 := hA3.go hnF.below
      have hO : vF.heap[go]? = some (.cells x.cells.toArray 60 (0, 0)) := hnF.row
      refine rw_nil ?_
      refine nw_then ?_
      refine cw_seq ?_
      refine cw_region ?_
      refine rw_p 81 (.pointer (some ⟨g, 0, none⟩)) (fun _ => by kernel_rfl) (fun _ => by kernel_rfl) ?_
      refine rw_p 82 (.pointer (some ⟨go, 0, none⟩)) (fun _ => by kernel_rfl) (fun _ => by kernel_rfl) ?_
      refine rw_p 83 (.agg (B8 x.d)) (fun _ => by kernel_rfl) (fun _ => ol_mid 30 _ _ _ _ _ rfl (by kernel_rfl) (on_dig hO) Try.underlying30 rfl (by rw [List.length_map, hxl]; kernel_rfl)) ?_
      refine rw_call 84 19 #[.pointer (some ⟨g, 0, none⟩), .agg (B8 x.d)] (fun _ => by kernel_rfl) (fun _ => by kernel_rfl) (R := fun val w' => val = .tuple #[.string x.s, .int .i64 x.r, .bool true] ∧ Below vF.heap.size vF w') ((get_any hA3.st x.d hxl).mono (fun e w' h => ⟨_, by rw [h.1, get_self hA3.iv.nd hx], rfl, h.2⟩)) ?_
      rintro val u8 ⟨rfl, hb9⟩
      replace hA3 := hA3.go hb9
      replace hO := Below.row hb9 hO
      refine rw_p 80 (.tuple #[.string x.s, .int .i64 x.r, .bool true]) (fun _ => by kernel_rfl) (fun _ => by kernel_rfl) ?_
      refine rw_p 85 (.string x.s) (fun _ => by kernel_rfl) (fun _ => by kernel_rfl) ?_
      refine rw_p 86 (.int .i64 x.r) (fun _ => by kernel_rfl) (fun _ => by kernel_rfl) ?_
      refine rw_p 87 (.bool true) (fun _ => by kernel_rfl) (fun _ => by kernel_rfl) ?_
      refine rw_p 18 (.string x.s) (fun _ => by kernel_rfl) (fun _ => by kernel_rfl) ?_
      refine rw_p 19 (.int .i64 x.r) (fun _ => by kernel_rfl) (fun _ => by kernel_rfl) ?_
      refine rw_p 20 (.bool true) (fun _ => by kernel_rfl) (fun _ => by kernel_rfl) ?_
      refine rw_nil ?_
      refine nw_then ?_
      refine cw_seq ?_
      refine cw_region ?_
      refine rw_p 88 (.string x.s) (fun _ => by kernel_rfl) (fun _ => by kernel_rfl) ?_
      refine rw_p 89 (.pointer (some ⟨go, 32, none⟩)) (fun _ => by kernel_rfl) (fun _ => by kernel_rfl) ?_
      refine rw_p 90 (.string x.s) (fun _ => by kernel_rfl) (fun _ => ol_cell 9 _ _ _ _ rfl (by kernel_rfl) (on_c32 hxl hO) Try.underlying9 rfl) ?_
      refine rw_p 91 (.bool false) (fun _ => by kernel_rfl) (fun _ => ol_nes 9 _ _ _ x.s x.s rfl (by kernel_rfl) (by kernel_rfl) (by simp)) ?_
      refine rw_p 92 (.bool false) (fun _ => by kernel_rfl) (fun _ => by kernel_rfl) ?_
      refine rw_p 93 (.int .i64 x.r) (fun _ => by kernel_rfl) (fun _ => by kernel_rfl) ?_
      refine rw_p 94 (.pointer (some ⟨go, 33, none⟩)) (fun _ => by kernel_rfl) (fun _ => by kernel_rfl) ?_
      refine rw_p 95 (.int .i64 x.r) (fun _ => by kernel_rfl) (fun _ => ol_cell 3 _ _ _ _ rfl (by kernel_rfl) (on_c33 hxl hO) Try.underlying3 rfl) ?_
      refine rw_p 96 (.bool false) (fun _ => by kernel_rfl) (fun _ => ol_conv (v := .bool (!((x.r : Int) == (x.r : Int)))) (by kernel_rfl) (congrArg Value.bool (by simp))) ?_
      refine rw_p 97 (.bool false) (fun _ => by kernel_rfl) (fun _ => by kernel_rfl) ?_
      refine rw_p 98 (.bool false) (fun _ => by kernel_rfl) (fun _ => by kernel_rfl) ?_
      refine rw_p 99 (.bool true) (fun _ => by kernel_rfl) (fun _ => by kernel_rfl) ?_
      refine rw_p 100 (.bool false) (fun _ => by kernel_rfl) (fun _ => by kernel_rfl) ?_
      refine rw_p 101 (.bool false) (fun _ => by kernel_rfl) (fun _ => by kernel_rfl) ?_
      refine rw_nil ?_
      refine nw_then ?_
      refine cw_cond_f (fun _ => by kernel_rfl) ?_
      refine cw_skip ?_
      refine nw_block ?_
      refine nw_then ?_
      refine cw_region ?_
      refine rw_p 102 (.int .i64 (((k : Nat) : Int) + 1)) (fun _ => by kernel_rfl) (fun _ => ol_conv (v := .int .i64 (IntKind.i64.wrap (((k : Nat) : Int) + 1))) (by kernel_rfl) (congrArg (Value.int .i64) (wrap64 (by omega) (by omega)))) ?_
      refine rw_p 76 (.int .i64 (((k : Nat) : Int) + 1)) (fun _ => by kernel_rfl) (fun _ => by kernel_rfl) ?_
      refine rw_nil ?_
      exact nw_round (E := fun k : Nat => [(7, .pointer (some ⟨g, 0, none⟩)), (9, .pointer (some ⟨gr, 0, none⟩)), (74, .slice (some ⟨gx, off, none⟩) n' c'), (75, .int .i64 ((n' : Nat) : Int)), (76, .int .i64 ((k : Nat) : Int))]) (R := fun (k : Nat) v => Al W v g m gr most L (some ⟨gx, off, none⟩) n' c' ∧ k ≤ n') (μ := fun k => n' - k) (x := k) (k + 1) (by exact ⟨fun _ => by kernel_rfl, ⟨fun _ => by kernel_rfl, ⟨fun _ => by kernel_rfl, ⟨fun _ => by kernel_rfl, ⟨fun _ => by kernel_rfl, trivial⟩⟩⟩⟩⟩) ⟨hA3, by omega⟩ (by show n' - (k + 1) < n' - k; omega)
    refine cw_seq ?_
    refine cw_region ?_
    refine rw_p 77 (.bool false) (fun _ => by kernel_rfl) (fun _ => ol_conv (v := .bool (decide (((k : Nat) : Int) < ((n' : Nat) : Int)))) (by kernel_rfl) (congrArg Value.bool (decide_eq_false (by omega)))) ?_
    refine rw_nil ?_
    refine nw_then ?_
    refine cw_seq ?_
    refine cw_cond_f (fun _ => by kernel_rfl) ?_
    refine cw_exit ?_
    refine nw_exit_then ?_
    refine nw_exit_then ?_
    refine nw_exit_here ?_
    refine nw_then ?_
    refine cw_seq ?_
    refine cw_draw (fun v => Al W v g m gr most L a' n' c') (by kernel_rfl) (hA3.drew) ?_
    refine dw_take 0 103 (.pointer (some ⟨g, 0, none⟩)) rfl (by kernel_rfl) (fun _ _ _ h => h) (fun _ => by kernel_rfl) (fun v hv _ => by kernel_rfl) hA3.drew ?_
    refine dw_take 2 105 (.agg #[.int .i64 most, .slice a' n' c']) rfl (by kernel_rfl) (fun _ _ _ h => h) (fun _ => by kernel_rfl) (fun v hv _ => ol_row 28 _ _ _ _ _ _ rfl (by kernel_rfl) hv.rb Try.underlying28 rfl (by kernel_rfl)) hA3.drew ?_
    refine dw_ready [1] (by kernel_rfl) (by simp) ?_
    refine ar_call 1 104 13 #[.pointer (some ⟨g, 0, none⟩)] rfl (fun _ => by kernel_rfl) (fun _ => by kernel_rfl) (R := fun val w' => (∃ a1 n1 c1 M1, val = .slice a1 n1 c1 ∧ Ds w' a1 n1 c1 M1 ∧ Srt M1 ∧ M1.Perm (L.map Th.d)) ∧ Below (v3.drew).heap.size (v3.drew) w') ((list_any hA3.drew.st hA3.drew.iv (by omega)).mono (fun e w' h => by obtain ⟨⟨a1, n1, c1, M1, rfl, h⟩, hb⟩ := h; exact ⟨_, rfl, ⟨a1, n1, c1, M1, rfl, h⟩, hb⟩)) (fun val w' h => hA3.drew.go h.2) ?_ ar_nil
    rintro val u10 ⟨⟨a1, n1, c1, M1, rfl, hd1, hs1, hp1⟩, hb11⟩
    have Su10 := hA3.drew.go hb11
    refine dw_ready [3] (by kernel_rfl) (by simp) ?_
    refine ar_call 3 106 14 #[.agg #[.int .i64 most, .slice a' n' c']] rfl (fun _ => by kernel_rfl) (fun _ => by kernel_rfl) (R := fun val w' => (∃ a2 n2 c2 M2, val = .slice a2 n2 c2 ∧ Ds w' a2 n2 c2 M2 ∧ Srt M2 ∧ M2.Perm (L.map Th.d)) ∧ Below (u10).heap.size (u10) w') ((rlist_any most a' n' c' L (u10) Su10.ls Su10.iv.nd (by rw [Su10.len]; omega)).mono (fun e w' h => by obtain ⟨⟨a1, n1, c1, M1, rfl, h⟩, hb⟩ := h; exact ⟨_, rfl, ⟨a1, n1, c1, M1, rfl, h⟩, hb⟩)) (fun val w' h => Su10.go h.2) ?_ ar_nil
    rintro val u12 ⟨⟨a2, n2, c2, M2, rfl, hd2, hs2, hp2⟩, hb13⟩
    have Su12 := Su10.go hb13
    replace hd1 := hd1.go hb13
    obtain rfl : M1 = M2 := srt_eq hs1 hs2 (hp1.trans hp2.symm)
    refine dw_ready [4] (by kernel_rfl) (by simp) ?_
    refine ar_call 4 107 12 #[.slice a1 n1 c1, .slice a2 n2 c2] rfl (fun _ => by kernel_rfl) (fun _ => by kernel_rfl) (R := fun val w' => val = .bool true ∧ Below (u12).heap.size (u12) w') ((same_any hd1 hd2).mono (fun e w' h => ⟨_, h.1, by simp, h.2⟩)) (fun val w' h => Su12.go h.2) ?_ ar_nil
    rintro val u14 ⟨rfl, hb15⟩
    have Su14 := Su12.go hb15
    refine dw_take 5 108 (.bool true) rfl (by kernel_rfl) (fun _ _ _ h => h) (fun _ => by kernel_rfl) (fun v hv _ => by kernel_rfl) Su14 ?_
    refine dw_take 6 109 (.pointer (some ⟨g, 0, none⟩)) rfl (by kernel_rfl) (fun _ _ _ h => h) (fun _ => by kernel_rfl) (fun v hv _ => by kernel_rfl) Su14 ?_
    refine dw_take 8 111 (.pointer (some ⟨gr, 1, none⟩)) rfl (by kernel_rfl) (fun _ _ _ h => h) (fun _ => by kernel_rfl) (fun v hv _ => by kernel_rfl) Su14 ?_
    refine dw_take 9 112 (.slice a' n' c') rfl (by kernel_rfl) (fun _ _ _ h => h) (fun _ => by kernel_rfl) (fun v hv _ => ol_cell 26 _ _ _ _ rfl (by kernel_rfl) hv.rb.c1 Try.underlying26 rfl) Su14 ?_
    refine dw_take 10 113 (.int .i64 n') rfl (by kernel_rfl) (fun _ _ _ h => h) (fun _ => by kernel_rfl) (fun v hv _ => by kernel_rfl) Su14 ?_
    refine dw_ready [7] (by kernel_rfl) (by simp) ?_
    refine ar_call 7 110 15 #[.pointer (some ⟨g, 0, none⟩)] rfl (fun _ => by kernel_rfl) (fun _ => by kernel_rfl) (R := fun val w' => val = .int .i64 ((L.length : Nat) : Int) ∧ w' = u14) ((len_any Su14.st).mono (fun e w' h => ⟨_, h.1, rfl, h.2⟩)) (fun val w' h => by rw [h.2]; exact Su14) ?_ ar_nil
    rintro val _ ⟨rfl, rfl⟩
    have Su16 := Su14
    refine dw_take 11 114 (.bool true) rfl (by kernel_rfl) (fun _ _ _ h => h) (fun _ => by kernel_rfl) (fun v hv => (fun _ => ol_conv (v := .bool (((L.length : Nat) : Int) == (n' : Int))) (by kernel_rfl) (congrArg Value.bool (by rw [hA3.len]; simp)))) Su16 ?_
    refine dw_take 12 115 (.bool true) rfl (by kernel_rfl) (fun _ _ _ h => h) (fun _ => by kernel_rfl) (fun v hv _ => by kernel_rfl) Su16 ?_
    refine dw_take 13 6 (.bool true) rfl (by kernel_rfl) (fun _ _ _ h => h) (fun _ => by kernel_rfl) (fun v hv _ => by kernel_rfl) Su16 ?_
    refine dw_done (by kernel_rfl) ?_
    refine nw_then ?_
    refine cw_ret ?_
    exact nw_ret_body (.bool true) (fun _ => by kernel_rfl) ⟨rfl, Su16.bel⟩
  have hpn := put_not (most := most) (s := tx) (L := L) (by rw [hpp]; exact he0)
  rw [hpp] at hpn
  simp only at hpn
  subst hpn
  have hA3 : Al W vB2 g m gr most L2 a' n' c' := ⟨hst2, ht2.row hA.rb hA.ne.2, hA.ls.touch hA.st.mp ht2, hA.iv, touch_below hA.bel ht2 hA.hg.2.1, hA.hg, hA.ne⟩
  refine cw_seq ?_
  refine cw_seq ?_
  refine cw_region ?_
  refine rw_p 55 (.int .i64 e2) (fun _ => by kernel_rfl) (fun _ => by kernel_rfl) ?_
  refine rw_p 56 (.bool false) (fun _ => by kernel_rfl) (fun _ => ol_conv (v := .bool ((e2 : Int) == (0 : Int))) (by kernel_rfl) (congrArg Value.bool (by simpa using he0))) ?_
  refine rw_nil ?_
  refine nw_then ?_
  refine cw_cond_f (fun _ => by kernel_rfl) ?_
  refine cw_skip ?_
  refine nw_then ?_
  refine cw_seq ?_
  refine cw_seq ?_
  refine cw_region ?_
  refine rw_p 73 (.pointer (some ⟨gr, 1, none⟩)) (fun _ => by kernel_rfl) (fun _ => by kernel_rfl) ?_
  refine rw_p 74 (.slice a' n' c') (fun _ => by kernel_rfl) (fun _ => ol_cell 26 _ _ _ _ rfl (by kernel_rfl) hA3.rb.c1 Try.underlying26 rfl) ?_
  refine rw_p 75 (.int .i64 n') (fun _ => by kernel_rfl) (fun _ => by kernel_rfl) ?_
  refine rw_p 76 (.int .i64 0) (fun _ => by kernel_rfl) (fun _ => by kernel_rfl) ?_
  refine rw_nil ?_
  refine nw_then ?_
  refine cw_block ?_
  have hAz := hA3
  clear hA3
  refine cw_loop (X := Nat) (fun k : Nat => [(7, .pointer (some ⟨g, 0, none⟩)), (9, .pointer (some ⟨gr, 0, none⟩)), (74, .slice a' n' c'), (75, .int .i64 ((n' : Nat) : Int)), (76, .int .i64 ((k : Nat) : Int))]) (fun (k : Nat) v => Al W v g m gr most L2 a' n' c' ∧ k ≤ n') (fun k => n' - k) 0 (by exact ⟨fun _ => by kernel_rfl, ⟨fun _ => by kernel_rfl, ⟨fun _ => by kernel_rfl, ⟨fun _ => by kernel_rfl, ⟨fun _ => by kernel_rfl, trivial⟩⟩⟩⟩⟩) ⟨hAz, Nat.zero_le _⟩ ?_
  clear hAz
  rintro k v3 ⟨hA3, hkn2⟩
  have hnn := hA3.len
  by_cases hlt2 : k < n'
  · skip
    obtain ⟨x, hx⟩ : ∃ x, L2[k]? = some x := ⟨_, List.getElem?_eq_getElem (by rw [← hA3.len]; exact hlt2)⟩
    obtain ⟨gx, off, rfl, _⟩ := hA3.ls.rows k x hx
    have hxl : x.d.length = 32 := hA3.iv.lens x (List.mem_of_getElem? hx)
    refine cw_seq ?_
    refine cw_region ?_
    refine rw_p 77 (.bool true) (fun _ => by kernel_rfl) (fun _ => ol_conv (v := .bool (decide (((k : Nat) : Int) < ((n' : Nat) : Int)))) (by kernel_rfl) (congrArg Value.bool (decide_eq_true (by omega)))) ?_
    refine rw_nil ?_
    refine nw_then ?_
    refine cw_seq ?_
    refine cw_cond_t (fun _ => by kernel_rfl) ?_
    refine cw_skip ?_
    refine nw_then ?_
    refine cw_seq ?_
    refine cw_block ?_
    refine cw_seq ?_
    refine cw_region ?_
    refine rw_p 78 (.pointer (some ⟨gx, off + k * 34, none⟩)) (fun _ => by kernel_rfl) (fun _ => ol_index 26 _ _ gx off k n' c' 34 60 rfl (by kernel_rfl) (by kernel_rfl) hlt2 Try.underlying26 (by kernel_rfl)) ?_
    refine rw_p 79 (.agg x.cells.toArray) (fun _ => by kernel_rfl) (fun _ => ol_mid 60 _ _ _ _ _ rfl (by kernel_rfl) (hA3.ls.rng hx) Try.underlying60 rfl (by rw [Th.clen hxl]; kernel_rfl)) ?_
    refine rw_new 17 zon 60 (fun _ => by kernel_rfl) (fun _ => by kernel_rfl) ?_
    intro vE go hnE
    refine rw_put go x.cells.toArray (fun _ => by kernel_rfl) (fun _ => ol_store 60 _ _ _ _ _ _ rfl (by kernel_rfl) (by kernel_rfl) hnE.row (by rw [on_size hxl]; kernel_rfl) (by rw [on_size hxl]; rfl) (on_ones x)) ?_
    intro vF hpF
    have hnF := hnE.put hpF
    replace hA3 := hA3.go hnF.below
    have hO : vF.heap[go]? = some (.cells x.cells.toArray 60 (0, 0)) := hnF.row
    refine rw_nil ?_
    refine nw_then ?_
    refine cw_seq ?_
    refine cw_region ?_
    refine rw_p 81 (.pointer (some ⟨g, 0, none⟩)) (fun _ => by kernel_rfl) (fun _ => by kernel_rfl) ?_
    refine rw_p 82 (.pointer (some ⟨go, 0, none⟩)) (fun _ => by kernel_rfl) (fun _ => by kernel_rfl) ?_
    refine rw_p 83 (.agg (B8 x.d)) (fun _ => by kernel_rfl) (fun _ => ol_mid 30 _ _ _ _ _ rfl (by kernel_rfl) (on_dig hO) Try.underlying30 rfl (by rw [List.length_map, hxl]; kernel_rfl)) ?_
    refine rw_call 84 19 #[.pointer (some ⟨g, 0, none⟩), .agg (B8 x.d)] (fun _ => by kernel_rfl) (fun _ => by kernel_rfl) (R := fun val w' => val = .tuple #[.string x.s, .int .i64 x.r, .bool true] ∧ Below vF.heap.size vF w') ((get_any hA3.st x.d hxl).mono (fun e w' h => ⟨_, by rw [h.1, get_self hA3.iv.nd hx], rfl, h.2⟩)) ?_
    rintro val u17 ⟨rfl, hb18⟩
    replace hA3 := hA3.go hb18
    replace hO := Below.row hb18 hO
    refine rw_p 80 (.tuple #[.string x.s, .int .i64 x.r, .bool true]) (fun _ => by kernel_rfl) (fun _ => by kernel_rfl) ?_
    refine rw_p 85 (.string x.s) (fun _ => by kernel_rfl) (fun _ => by kernel_rfl) ?_
    refine rw_p 86 (.int .i64 x.r) (fun _ => by kernel_rfl) (fun _ => by kernel_rfl) ?_
    refine rw_p 87 (.bool true) (fun _ => by kernel_rfl) (fun _ => by kernel_rfl) ?_
    refine rw_p 18 (.string x.s) (fun _ => by kernel_rfl) (fun _ => by kernel_rfl) ?_
    refine rw_p 19 (.int .i64 x.r) (fun _ => by kernel_rfl) (fun _ => by kernel_rfl) ?_
    refine rw_p 20 (.bool true) (fun _ => by kernel_rfl) (fun _ => by kernel_rfl) ?_
    refine rw_nil ?_
    refine nw_then ?_
    refine cw_seq ?_
    refine cw_region ?_
    refine rw_p 88 (.string x.s) (fun _ => by kernel_rfl) (fun _ => by kernel_rfl) ?_
    refine rw_p 89 (.pointer (some ⟨go, 32, none⟩)) (fun _ => by kernel_rfl) (fun _ => by kernel_rfl) ?_
    refine rw_p 90 (.string x.s) (fun _ => by kernel_rfl) (fun _ => ol_cell 9 _ _ _ _ rfl (by kernel_rfl) (on_c32 hxl hO) Try.underlying9 rfl) ?_
    refine rw_p 91 (.bool false) (fun _ => by kernel_rfl) (fun _ => ol_nes 9 _ _ _ x.s x.s rfl (by kernel_rfl) (by kernel_rfl) (by simp)) ?_
    refine rw_p 92 (.bool false) (fun _ => by kernel_rfl) (fun _ => by kernel_rfl) ?_
    refine rw_p 93 (.int .i64 x.r) (fun _ => by kernel_rfl) (fun _ => by kernel_rfl) ?_
    refine rw_p 94 (.pointer (some ⟨go, 33, none⟩)) (fun _ => by kernel_rfl) (fun _ => by kernel_rfl) ?_
    refine rw_p 95 (.int .i64 x.r) (fun _ => by kernel_rfl) (fun _ => ol_cell 3 _ _ _ _ rfl (by kernel_rfl) (on_c33 hxl hO) Try.underlying3 rfl) ?_
    refine rw_p 96 (.bool false) (fun _ => by kernel_rfl) (fun _ => ol_conv (v := .bool (!((x.r : Int) == (x.r : Int)))) (by kernel_rfl) (congrArg Value.bool (by simp))) ?_
    refine rw_p 97 (.bool false) (fun _ => by kernel_rfl) (fun _ => by kernel_rfl) ?_
    refine rw_p 98 (.bool false) (fun _ => by kernel_rfl) (fun _ => by kernel_rfl) ?_
    refine rw_p 99 (.bool true) (fun _ => by kernel_rfl) (fun _ => by kernel_rfl) ?_
    refine rw_p 100 (.bool false) (fun _ => by kernel_rfl) (fun _ => by kernel_rfl) ?_
    refine rw_p 101 (.bool false) (fun _ => by kernel_rfl) (fun _ => by kernel_rfl) ?_
    refine rw_nil ?_
    refine nw_then ?_
    refine cw_cond_f (fun _ => by kernel_rfl) ?_
    refine cw_skip ?_
    refine nw_block ?_
    refine nw_then ?_
    refine cw_region ?_
    refine rw_p 102 (.int .i64 (((k : Nat) : Int) + 1)) (fun _ => by kernel_rfl) (fun _ => ol_conv (v := .int .i64 (IntKind.i64.wrap (((k : Nat) : Int) + 1))) (by kernel_rfl) (congrArg (Value.int .i64) (wrap64 (by omega) (by omega)))) ?_
    refine rw_p 76 (.int .i64 (((k : Nat) : Int) + 1)) (fun _ => by kernel_rfl) (fun _ => by kernel_rfl) ?_
    refine rw_nil ?_
    exact nw_round (E := fun k : Nat => [(7, .pointer (some ⟨g, 0, none⟩)), (9, .pointer (some ⟨gr, 0, none⟩)), (74, .slice (some ⟨gx, off, none⟩) n' c'), (75, .int .i64 ((n' : Nat) : Int)), (76, .int .i64 ((k : Nat) : Int))]) (R := fun (k : Nat) v => Al W v g m gr most L2 (some ⟨gx, off, none⟩) n' c' ∧ k ≤ n') (μ := fun k => n' - k) (x := k) (k + 1) (by exact ⟨fun _ => by kernel_rfl, ⟨fun _ => by kernel_rfl, ⟨fun _ => by kernel_rfl, ⟨fun _ => by kernel_rfl, ⟨fun _ => by kernel_rfl, trivial⟩⟩⟩⟩⟩) ⟨hA3, by omega⟩ (by show n' - (k + 1) < n' - k; omega)
  refine cw_seq ?_
  refine cw_region ?_
  refine rw_p 77 (.bool false) (fun _ => by kernel_rfl) (fun _ => ol_conv (v := .bool (decide (((k : Nat) : Int) < ((n' : Nat) : Int)))) (by kernel_rfl) (congrArg Value.bool (decide_eq_false (by omega)))) ?_
  refine rw_nil ?_
  refine nw_then ?_
  refine cw_seq ?_
  refine cw_cond_f (fun _ => by kernel_rfl) ?_
  refine cw_exit ?_
  refine nw_exit_then ?_
  refine nw_exit_then ?_
  refine nw_exit_here ?_
  refine nw_then ?_
  refine cw_seq ?_
  refine cw_draw (fun v => Al W v g m gr most L2 a' n' c') (by kernel_rfl) (hA3.drew) ?_
  refine dw_take 0 103 (.pointer (some ⟨g, 0, none⟩)) rfl (by kernel_rfl) (fun _ _ _ h => h) (fun _ => by kernel_rfl) (fun v hv _ => by kernel_rfl) hA3.drew ?_
  refine dw_take 2 105 (.agg #[.int .i64 most, .slice a' n' c']) rfl (by kernel_rfl) (fun _ _ _ h => h) (fun _ => by kernel_rfl) (fun v hv _ => ol_row 28 _ _ _ _ _ _ rfl (by kernel_rfl) hv.rb Try.underlying28 rfl (by kernel_rfl)) hA3.drew ?_
  refine dw_ready [1] (by kernel_rfl) (by simp) ?_
  refine ar_call 1 104 13 #[.pointer (some ⟨g, 0, none⟩)] rfl (fun _ => by kernel_rfl) (fun _ => by kernel_rfl) (R := fun val w' => (∃ a1 n1 c1 M1, val = .slice a1 n1 c1 ∧ Ds w' a1 n1 c1 M1 ∧ Srt M1 ∧ M1.Perm (L2.map Th.d)) ∧ Below (v3.drew).heap.size (v3.drew) w') ((list_any hA3.drew.st hA3.drew.iv (by omega)).mono (fun e w' h => by obtain ⟨⟨a1, n1, c1, M1, rfl, h⟩, hb⟩ := h; exact ⟨_, rfl, ⟨a1, n1, c1, M1, rfl, h⟩, hb⟩)) (fun val w' h => hA3.drew.go h.2) ?_ ar_nil
  rintro val u19 ⟨⟨a1, n1, c1, M1, rfl, hd1, hs1, hp1⟩, hb20⟩
  have Su19 := hA3.drew.go hb20
  refine dw_ready [3] (by kernel_rfl) (by simp) ?_
  refine ar_call 3 106 14 #[.agg #[.int .i64 most, .slice a' n' c']] rfl (fun _ => by kernel_rfl) (fun _ => by kernel_rfl) (R := fun val w' => (∃ a2 n2 c2 M2, val = .slice a2 n2 c2 ∧ Ds w' a2 n2 c2 M2 ∧ Srt M2 ∧ M2.Perm (L2.map Th.d)) ∧ Below (u19).heap.size (u19) w') ((rlist_any most a' n' c' L2 (u19) Su19.ls Su19.iv.nd (by rw [Su19.len]; omega)).mono (fun e w' h => by obtain ⟨⟨a1, n1, c1, M1, rfl, h⟩, hb⟩ := h; exact ⟨_, rfl, ⟨a1, n1, c1, M1, rfl, h⟩, hb⟩)) (fun val w' h => Su19.go h.2) ?_ ar_nil
  rintro val u21 ⟨⟨a2, n2, c2, M2, rfl, hd2, hs2, hp2⟩, hb22⟩
  have Su21 := Su19.go hb22
  replace hd1 := hd1.go hb22
  obtain rfl : M1 = M2 := srt_eq hs1 hs2 (hp1.trans hp2.symm)
  refine dw_ready [4] (by kernel_rfl) (by simp) ?_
  refine ar_call 4 107 12 #[.slice a1 n1 c1, .slice a2 n2 c2] rfl (fun _ => by kernel_rfl) (fun _ => by kernel_rfl) (R := fun val w' => val = .bool true ∧ Below (u21).heap.size (u21) w') ((same_any hd1 hd2).mono (fun e w' h => ⟨_, h.1, by simp, h.2⟩)) (fun val w' h => Su21.go h.2) ?_ ar_nil
  rintro val u23 ⟨rfl, hb24⟩
  have Su23 := Su21.go hb24
  refine dw_take 5 108 (.bool true) rfl (by kernel_rfl) (fun _ _ _ h => h) (fun _ => by kernel_rfl) (fun v hv _ => by kernel_rfl) Su23 ?_
  refine dw_take 6 109 (.pointer (some ⟨g, 0, none⟩)) rfl (by kernel_rfl) (fun _ _ _ h => h) (fun _ => by kernel_rfl) (fun v hv _ => by kernel_rfl) Su23 ?_
  refine dw_take 8 111 (.pointer (some ⟨gr, 1, none⟩)) rfl (by kernel_rfl) (fun _ _ _ h => h) (fun _ => by kernel_rfl) (fun v hv _ => by kernel_rfl) Su23 ?_
  refine dw_take 9 112 (.slice a' n' c') rfl (by kernel_rfl) (fun _ _ _ h => h) (fun _ => by kernel_rfl) (fun v hv _ => ol_cell 26 _ _ _ _ rfl (by kernel_rfl) hv.rb.c1 Try.underlying26 rfl) Su23 ?_
  refine dw_take 10 113 (.int .i64 n') rfl (by kernel_rfl) (fun _ _ _ h => h) (fun _ => by kernel_rfl) (fun v hv _ => by kernel_rfl) Su23 ?_
  refine dw_ready [7] (by kernel_rfl) (by simp) ?_
  refine ar_call 7 110 15 #[.pointer (some ⟨g, 0, none⟩)] rfl (fun _ => by kernel_rfl) (fun _ => by kernel_rfl) (R := fun val w' => val = .int .i64 ((L2.length : Nat) : Int) ∧ w' = u23) ((len_any Su23.st).mono (fun e w' h => ⟨_, h.1, rfl, h.2⟩)) (fun val w' h => by rw [h.2]; exact Su23) ?_ ar_nil
  rintro val _ ⟨rfl, rfl⟩
  have Su25 := Su23
  refine dw_take 11 114 (.bool true) rfl (by kernel_rfl) (fun _ _ _ h => h) (fun _ => by kernel_rfl) (fun v hv => (fun _ => ol_conv (v := .bool (((L2.length : Nat) : Int) == (n' : Int))) (by kernel_rfl) (congrArg Value.bool (by rw [hA3.len]; simp)))) Su25 ?_
  refine dw_take 12 115 (.bool true) rfl (by kernel_rfl) (fun _ _ _ h => h) (fun _ => by kernel_rfl) (fun v hv _ => by kernel_rfl) Su25 ?_
  refine dw_take 13 6 (.bool true) rfl (by kernel_rfl) (fun _ _ _ h => h) (fun _ => by kernel_rfl) (fun v hv _ => by kernel_rfl) Su25 ?_
  refine dw_done (by kernel_rfl) ?_
  refine nw_then ?_
  refine cw_ret ?_
  exact nw_ret_body (.bool true) (fun _ => by kernel_rfl) ⟨rfl, Su25.bel⟩
end Go.Proofs.Ytjpcfdhkgfaeeaa

/- The table in memory; bytes cut; rows of one's own; what is found in the table. -/
import Derived.Test.YtbjjboicfghldabDoorG09
namespace Go.Proofs.YtbjjboicfghldabDoor
open Go.RowKit
open Wo
set_option linter.unusedVariables false
set_option maxRecDepth 100000
def rowC (r : Rd) : List Value := [.int .u8 ((r.op : Nat) : Int), .string (strOfNums r.wd), .int .u8 ((r.bh : Nat) : Int), .int .u8 ((r.tk : Nat) : Int), .int .u8 ((r.gv : Nat) : Int), .int .u8 ((r.gs : Nat) : Int)]
def tbc : List Value := (tbl.map rowC).flatten
/-- The table lies in its variable. -/
def Tb (w : World) : Prop := ∃ (T : TypeId) (fr : Nat × Nat), w.heap[0]? = some (.cells tbc.toArray T fr)
theorem Tb.go {w w' : World} (h : Tb w) (hb : Below w.heap.size w w') : Tb w' := let ⟨T, fr, h⟩ := h; ⟨T, fr, Below.row hb h⟩
theorem Tb.lt {w : World} (h : Tb w) : 0 < w.heap.size := let ⟨_, _, h⟩ := h; lt_of_get h
theorem Tb.put {w w' : World} {g : Nat} {cells : Array Value} (h : Tb w) (hp : Put w w' g cells) (hg : 0 ≠ g) : Tb w' := let ⟨T, fr, h⟩ := h; ⟨T, fr, (hp.other hg).trans h⟩
theorem Tb.drew {w : World} (h : Tb w) : Tb w.drew := h
theorem ol_tab {w : World} {ρ : Operand → Value} {o : Oper} (x : Operand) (ho : o.op = .load 68 x) (hx : ρ x = .pointer (some ⟨0, 0, none⟩)) (h : Tb w) : (execOp ρ o).run Tryd.prog w = .ok (.value (.agg tbc.toArray)) w := by
  obtain ⟨T, fr, h⟩ := h
  exact ol_row 68 x 0 tbc.toArray T fr _ ho hx h Tryd.underlying68 rfl (by kernel_rfl)
def rd0 : Rd := ⟨0, [], 0, 0, 0, 0⟩
def rdAt (i : Nat) : Rd := tbl.getD i rd0
theorem tab_ext (i : Nat) (hi : i < 29) : (tbc.drop (i * 6)).take 6 = rowC (rdAt i) := by
  match i, hi with
  | 0, _ => rfl
  | 1, _ => rfl
  | 2, _ => rfl
  | 3, _ => rfl
  | 4, _ => rfl
  | 5, _ => rfl
  | 6, _ => rfl
  | 7, _ => rfl
  | 8, _ => rfl
  | 9, _ => rfl
  | 10, _ => rfl
  | 11, _ => rfl
  | 12, _ => rfl
  | 13, _ => rfl
  | 14, _ => rfl
  | 15, _ => rfl
  | 16, _ => rfl
  | 17, _ => rfl
  | 18, _ => rfl
  | 19, _ => rfl
  | 20, _ => rfl
  | 21, _ => rfl
  | 22, _ => rfl
  | 23, _ => rfl
  | 24, _ => rfl
  | 25, _ => rfl
  | 26, _ => rfl
  | 27, _ => rfl
  | 28, _ => rfl
  | n + 29, h => omega
theorem ol_ixT {w : World} {ρ : Operand → Value} {o : Oper} (x y : Operand) (i : Nat) (ho : o.op = .index 68 x y) (hx : ρ x = .agg tbc.toArray) (hy : ρ y = .int .i64 ((i : Nat) : Int)) (hi : i < 29) : (execOp ρ o).run Tryd.prog w = .ok (.value (.agg (rowC (rdAt i)).toArray)) w := by
  have hs : (sizeOf 67).run Tryd.prog w = .ok 6 w := by kernel_rfl
  have ha : (isAgg 67).run Tryd.prog w = .ok true w := by kernel_rfl
  unfold execOp
  rw [ho]
  simp only [hx, hy]
  simp [Instr.index, asIntOf, run_underlying Tryd.underlying68, hs, ha, part, Result.andThen]
  rw [if_pos hi, tab_ext i hi]
theorem row_small (i : Nat) : (rdAt i).op < 256 ∧ (rdAt i).bh < 256 ∧ (rdAt i).tk < 256 ∧ (rdAt i).gv < 256 ∧ (rdAt i).gs < 256 ∧ Byt (rdAt i).wd ∧ (rdAt i).wd.length ≤ 8 := by
  have h : ∀ r ∈ rd0 :: tbl, r.op < 256 ∧ r.bh < 256 ∧ r.tk < 256 ∧ r.gv < 256 ∧ r.gs < 256 ∧ (∀ x ∈ r.wd, 0 ≤ x ∧ x < 256) ∧ r.wd.length ≤ 8 := by decide +kernel
  refine h _ ?_
  unfold rdAt
  rw [List.getD]
  cases hq : tbl[i]? with
  | none => exact List.mem_cons_self
  | some r => exact List.mem_cons_of_mem _ (List.mem_of_getElem? hq)
/-- An operation's value. -/
def NfV (o : Nf) : Array Value := #[.string (strOfNums o.wd), .int .i64 ((o.bh : Nat) : Int), .int .i64 ((o.tk : Nat) : Int), .int .i64 ((o.gv : Nat) : Int), .int .u64 ((o.gs : Nat) : Int)]
/-- What the table has of a byte that is looked for. -/
def fdP (y : Int) : Option Rd := tbl.find? fun r => (r.op : Int) == y
theorem fd_at {y : Int} {i : Nat} (hi : i < 29) (h : ∀ j, j < i → ((rdAt j).op : Int) ≠ y) (hy : ((rdAt i).op : Int) = y) : fdP y = some (rdAt i) := by
  have key : ∀ (l : List Rd) (i : Nat), i < l.length → (∀ j, j < i → ((l.getD j rd0).op : Int) ≠ y) → ((l.getD i rd0).op : Int) = y → l.find? (fun r => (r.op : Int) == y) = some (l.getD i rd0) := by
    intro l
    induction l with
    | nil => intro i hi; simp at hi
    | cons r l ih =>
      intro i hi h hy
      cases i with
      | zero => simp only [List.getD_cons_zero] at hy ⊢; exact List.find?_cons_of_pos (by simpa using hy)
      | succ i =>
        have h0 := h 0 (by omega)
        simp only [List.getD_cons_zero] at h0
        rw [List.find?_cons_of_neg (by simpa using h0), List.getD_cons_succ]
        exact ih i (by simpa using hi) (fun j hj => by have := h (j + 1) (by omega); simpa using this) (by simpa using hy)
  exact key tbl i hi h hy
theorem fd_no {y : Int} (h : ∀ j, j < 29 → ((rdAt j).op : Int) ≠ y) : fdP y = none := by
  unfold fdP
  rw [List.find?_eq_none]
  intro r hr
  obtain ⟨i, hi, rfl⟩ := List.getElem_of_mem hr
  have := h i hi
  unfold rdAt at this
  rw [List.getD, List.getElem?_eq_getElem hi] at this
  simpa using this
theorem of_push {x : Int} (h : 32 ≤ x ∧ x < 40) : ofP x = some ⟨pushW, (x - 31).toNat, 0, 1, 1⟩ := by unfold ofP; rw [if_pos h]
theorem of_not {x : Int} (h : ¬ (32 ≤ x ∧ x < 40)) : ofP x = (fdP x).map fun r => ⟨r.wd, r.bh, r.tk, r.gv, r.gs⟩ := by unfold ofP; rw [if_neg h]; rfl
theorem fd_push : fdP 32 = some ⟨32, pushW, 1, 0, 1, 1⟩ := rfl
/-- Bytes cut. -/
def cutA (a : Option Addr) (k c : Nat) : Option Addr := if c = k then a else a.map (·.add k)
theorem size5 (w : World) : (sizeOf 5).run Tryd.prog w = .ok 1 w := by kernel_rfl
theorem elemB : Tryd.prog.elem 22 = 5 := by kernel_rfl
theorem undB : Tryd.prog.underlying 22 = some (.slice (Tryd.prog.elem 22)) := by rw [elemB]; exact Tryd.underlying22
theorem ol_from {w : World} {ρ : Operand → Value} {o : Oper} (x y : Operand) (a : Option Addr) (n c k : Nat) (ho : o.op = .slice 22 x (some y) none none) (hx : ρ x = .slice a n c) (hy : ρ y = .int .i64 ((k : Nat) : Int)) (hk : k ≤ n) (hn : n ≤ c) : (execOp ρ o).run Tryd.prog w = .ok (.value (.slice (cutA a k c) (n - k) (c - k))) w := by
  unfold execOp
  rw [ho]
  simp only [hx, hy, Option.map_some, Option.map_none, Sem.run_bind, run_sliceAt_slice w 22 _ _ _ _ undB, run_slice_l w 22 a n c undB .i64 ((k : Nat) : Int) (by omega) (by omega), elemB, size5, Result.andThen_ok, Sem.run_pure, Int.toNat_natCast, sliced, Nat.mul_one]
  rfl
theorem ol_to {w : World} {ρ : Operand → Value} {o : Oper} (x y : Operand) (a : Option Addr) (n c k : Nat) (ho : o.op = .slice 22 x none (some y) none) (hx : ρ x = .slice a n c) (hy : ρ y = .int .i64 ((k : Nat) : Int)) (hk : k ≤ c) : (execOp ρ o).run Tryd.prog w = .ok (.value (.slice (cutA a 0 c) k c)) w := by
  unfold execOp
  rw [ho]
  simp only [hx, hy, Option.map_some, Option.map_none, Sem.run_bind, run_sliceAt_slice w 22 _ _ _ _ undB, run_slice_h w 22 a n c undB .i64 ((k : Nat) : Int) (by omega) (by omega), elemB, size5, Result.andThen_ok, Sem.run_pure, Int.toNat_natCast, sliced, Nat.mul_one, Nat.sub_zero]
  rfl
theorem ol_mid2 {w : World} {ρ : Operand → Value} {o : Oper} (x y z : Operand) (a : Option Addr) (n c i j : Nat) (ho : o.op = .slice 22 x (some y) (some z) none) (hx : ρ x = .slice a n c) (hy : ρ y = .int .i64 ((i : Nat) : Int)) (hz : ρ z = .int .i64 ((j : Nat) : Int)) (hi : i ≤ j) (hj : j ≤ c) : (execOp ρ o).run Tryd.prog w = .ok (.value (.slice (cutA a i c) (j - i) (c - i))) w := by
  unfold execOp
  rw [ho]
  simp only [hx, hy, hz, Option.map_some, Option.map_none, Sem.run_bind, run_sliceAt_slice w 22 _ _ _ _ undB, run_slice_lh w 22 a n c undB .i64 .i64 ((i : Nat) : Int) ((j : Nat) : Int) (by omega) (by omega) (by omega), elemB, size5, Result.andThen_ok, Sem.run_pure, Int.toNat_natCast, sliced, Nat.mul_one]
  rfl
theorem Ag.cap {w : World} {a : Option Addr} {n c : Nat} {b : List Int} (h : Ag w a n c b) : n ≤ c := by
  by_cases h0 : 0 < n
  · exact (ag_head h h0).choose_spec.choose_spec.2.1
  · omega
theorem Ag.mid {w : World} {a : Option Addr} {n c : Nat} {b : List Int} (h : Ag w a n c b) {i j : Nat} (hi : i ≤ j) (hj : j ≤ n) : Ag w (cutA a i c) (j - i) (c - i) ((b.take j).drop i) := by
  have hl := h.l
  have hc := h.cap
  refine ⟨?_, ?_, by simp; omega, byt_drop (byt_take h.b _) _⟩
  · by_cases h0 : i = j
    · exact .inl ⟨by omega, by rw [List.drop_of_length_le]; simp; omega⟩
    · obtain ⟨g, off, rfl, h1, h2, h3⟩ := ag_head h (by omega)
      refine .inr ⟨g, off + i, ?_, by simp; omega, by omega, by omega, by omega, fun k hk => ?_⟩
      · unfold cutA
        rw [if_neg (by omega), Option.map_some, addr_add]
      · have hk' : k < j - i := by simp at hk; omega
        rw [Nat.add_assoc, h3 (i + k) (by omega)]
        congr 2
        simp only [List.getD, List.getElem?_drop]
        rw [List.getElem?_take_of_lt (by omega)]
  · intro e
    unfold cutA at e
    have ha : a = none := by
      split at e
      · exact e
      · simpa using e
    obtain ⟨h1, h2⟩ := h.nil ha
    omega
theorem Ag.from {w : World} {a : Option Addr} {n c : Nat} {b : List Int} (h : Ag w a n c b) {k : Nat} (hk : k ≤ n) : Ag w (cutA a k c) (n - k) (c - k) (b.drop k) := by
  have := h.mid (i := k) (j := n) hk (Nat.le_refl _)
  rwa [List.take_of_length_le (by rw [h.l]; exact Nat.le_refl _)] at this
theorem Ag.to {w : World} {a : Option Addr} {n c : Nat} {b : List Int} (h : Ag w a n c b) {k : Nat} (hk : k ≤ n) : Ag w (cutA a 0 c) k c (b.take k) := by
  have := h.mid (i := 0) (j := k) (Nat.zero_le _) hk
  simpa using this
/-- A byte of a slice. -/
theorem Ag.at0 {w : World} {a : Option Addr} {n c : Nat} {b : List Int} (h : Ag w a n c b) {k : Nat} (hk : k < n) : ∃ g off, a = some ⟨g, off, none⟩ ∧ w.cell? ⟨g, off + k * 1, none⟩ = some (.int .u8 (b.getD k 0)) := by
  obtain ⟨g, off, h1, _, _, h3⟩ := ag_head h (by omega)
  exact ⟨g, off, h1, by rw [Nat.mul_one]; exact h3 k hk⟩
theorem cell_go {w w' : World} {p : Addr} {v : Value} (h : w.cell? p = some v) (hb : Below w.heap.size w w') : w'.cell? p = some v := (hb.cell (block_lt_of_cell h)).trans h
theorem OwnB.go {w w' : World} {base : Nat} {v : Value} {bs : List Int} (h : OwnB w base v bs) (hb : Below w.heap.size w w') : OwnB w' base v bs := by
  obtain ⟨h1, h2⟩ := h
  refine ⟨h1, ?_⟩
  rcases h2 with h2 | ⟨k, cap, cur, hv, hg, hh, r⟩
  · exact .inl h2
  · exact .inr ⟨k, cap, cur, hv, hg, Below.row hb hh, r⟩
/-- A row of one's own, of values of one cell. -/
def Own (e : TypeId) (w : World) (base : Nat) (v : Value) (xs : List Value) : Prop := w.ownsRow base e 1 v xs.length xs
theorem Own.go {e : TypeId} {w w' : World} {base : Nat} {v : Value} {xs : List Value} (h : Own e w base v xs) (hb : Below w.heap.size w w') : Own e w' base v xs := by
  obtain ⟨h1, h2⟩ := h
  refine ⟨h1, ?_⟩
  rcases h2 with h2 | ⟨k, cap, cur, hv, hg, hh, r⟩
  · exact .inl h2
  · exact .inr ⟨k, cap, cur, hv, hg, Below.row hb hh, r⟩
theorem own_nil (e : TypeId) (w : World) (base : Nat) : Own e w base (.slice none 0 0) [] := ⟨rfl, .inl ⟨rfl, rfl⟩⟩
theorem Own.slice {e : TypeId} {w : World} {base : Nat} {v : Value} {xs : List Value} (h : Own e w base v xs) (hne : 0 < xs.length) :
    ∃ g cap, v = .slice (some ⟨g, 0, none⟩) xs.length cap ∧ g < w.heap.size ∧ xs.length ≤ cap ∧ cap ≤ maxLen ∧ ∀ j x, xs[j]? = some x → w.cell? ⟨g, j, none⟩ = some x := by
  obtain ⟨_, h2⟩ := h
  rcases h2 with ⟨_, h2⟩ | ⟨g, cap, cur, hv, hg, hh, hn, hcap, hsz, ht⟩
  · omega
  · refine ⟨g, cap, hv, lt_of_get hh, hn, hcap, ?_⟩
    intro j x hx
    have hj : j < xs.length := (List.getElem?_eq_some_iff.1 hx).1
    rw [cell_of_row w g j _ _ _ hh]
    have e : (cur.toList.take (xs.length * 1))[j]? = xs[j]? := by rw [ht]
    rw [List.getElem?_take_of_lt (by omega)] at e
    simp at e
    rw [e, hx]
theorem Own.form {e : TypeId} {w : World} {base : Nat} {v : Value} {xs : List Value} (h : Own e w base v xs) : ∃ a c, v = .slice a xs.length c := by
  obtain ⟨_, h2⟩ := h
  rcases h2 with ⟨h1, h2⟩ | ⟨g, cap, cur, hv, _⟩
  · exact ⟨none, 0, by rw [h1, h2]⟩
  · exact ⟨_, _, hv⟩
/-- One more. -/
theorem app_one {t e : TypeId} {bytes : Nat} {z : Value} (ht : Tryd.prog.underlying t = some (.slice e)) (hi : (Tryd.prog.info? e).map (fun i => (i.zero, i.size, i.bytes)) = some (some z, 1, bytes)) (hz : z.cells.size = 1)
    {w0 w : World} {base g : Nat} {v u : Value} {xs : List Value} (h : Own e w0 base v xs) (hn : New w0 w g #[u] e) (hu : u.oneCell' = true) (hb : (xs.length + 1) * bytes ≤ 140737488355328) (hm : xs.length + 1 ≤ maxLen) (hbase : base ≤ w0.heap.size) :
    ∃ v' w', (∀ ty, (Builtin.append_ #[t, t] ty #[v, .slice (some ⟨g, 0, none⟩) 1 1]).run Tryd.prog w = .ok v' w') ∧ Own e w' base v' (xs ++ [u]) ∧ Below base w w' := by
  cases hq : Tryd.prog.info? e with
  | none => rw [hq] at hi; simp at hi
  | some i =>
    rw [hq] at hi
    simp at hi
    have h1 := h.go hn.below
    obtain ⟨v', w', r1, r2, r3, _⟩ := run_append_own w base t 0 e i z 1 bytes ht hq hi.1 hi.2.1 hi.2.2 hz (by decide) v xs.length xs h1 ⟨g, 0, none⟩ 1 1 [u] rfl (fun j x hx => by
      cases j with
      | zero =>
        simp at hx
        subst hx
        rw [show (⟨g, 0, none⟩ : Addr).add 0 = ⟨g, 0, none⟩ from rfl, cell_of_row _ _ _ _ _ _ hn.row]
        rfl
      | succ j => simp at hx) (fun x hx => by simp at hx; rw [hx]; exact hu) hm hb (by have := hn.size; have := hn.hg; omega)
    refine ⟨v', w', fun ty => r1, ?_, (Below.refl _ _).grown r3 (by have := hn.size; have := hn.hg; omega) (fun k hk => (World.ownsRow.lt h1 k hk).1)⟩
    unfold Own
    rw [List.length_append]
    exact r2
theorem ol_app1 {t : TypeId} {w w' : World} {v u r : Value} {ρ : Operand → Value} {o : Oper} (hr : ∀ ty, (Builtin.append_ #[t, t] ty #[v, u]).run Tryd.prog w = .ok r w') (x y : Operand) (ho : o.op = .call { callee := .builtin .append, args := #[x, y], argTypes := #[t, t] }) (hx : ρ x = v) (hy : ρ y = u) : (execOp ρ o).run Tryd.prog w = .ok (.value r) w' := by
  unfold execOp
  simp only [ho, resolve, invoke, builtin, Sem.run_bind, Sem.run_pure, Result.andThen_ok, List.map_toArray, List.map_cons, List.map_nil, hx, hy, hr]
end Go.Proofs.YtbjjboicfghldabDoor

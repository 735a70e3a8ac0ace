/- What the method Write of digest.Hash does, for every Hash and all bytes (nothing in the way of a sum beyond an int): it has taken them behind all others; nothing but the Hash is changed. -/
import Derived.Test.YtmofehloiiopfaaG12
import Derived.Test.YtmofehloiiopfaaG13
import Derived.Deep.DrawnRows
import Derived.Deep.DeepCutAuto
namespace Go.Proofs.Ytmofehloiiopfaa.Di
set_option maxRecDepth 100000
open Go.RowKit
set_option linter.unusedVariables false
/-- Nothing but block g has turned. -/
structure Touch (g : Nat) (w w' : World) : Prop where
  os : w'.os = w.os
  tape : w'.tape = w.tape
  output : w'.output = w.output
  size : w.heap.size ≤ w'.heap.size
  block : ∀ k, k < w.heap.size → k ≠ g → w'.heap[k]? = w.heap[k]?
theorem Touch.refl (g : Nat) (w : World) : Touch g w w := ⟨rfl, rfl, rfl, Nat.le_refl _, fun _ _ _ => rfl⟩
theorem Touch.trans {g : Nat} {a b c : World} (h : Touch g a b) (k : Touch g b c) : Touch g a c :=
  ⟨k.os.trans h.os, k.tape.trans h.tape, k.output.trans h.output, Nat.le_trans h.size k.size, fun i hi hg => (k.block i (Nat.lt_of_lt_of_le hi h.size) hg).trans (h.block i hi hg)⟩
theorem Touch.of_below {g : Nat} {a b : World} (h : Below a.heap.size a b) : Touch g a b := ⟨h.os, h.tape, h.output, h.size, fun i hi _ => h.block i hi⟩
theorem Touch.setCell (g : Nat) (w : World) (o : Nat) (v : Value) : Touch g w (w.setCell ⟨g, o, none⟩ v) := ⟨rfl, rfl, rfl, by simp, fun k _ hk => heap_setCell_other _ _ _ _ hk⟩
theorem Touch.setRow (g : Nat) (w : World) (C : Array Value) : Touch g w (w.setRow g C) := ⟨rfl, rfl, rfl, by simp, fun k _ hk => setRow_other _ _ _ _ hk⟩
theorem Touch.drew (g : Nat) (w : World) : Touch g w w.drew := ⟨rfl, rfl, rfl, Nat.le_refl _, fun _ _ _ => rfl⟩
theorem HC_list (s : S4) (tl : List Int) (n : Nat) : (HC s tl n).toList = [Value.int .u64 s.a, Value.int .u64 s.b, Value.int .u64 s.c, Value.int .u64 s.d] ++ tl.map (Value.int .u8) ++ [Value.int .i64 n] := by
  simp [HC, B8]
theorem HC_of_list (s : S4) (tl : List Int) (n : Nat) {C : Array Value} (h : C.toList = [Value.int .u64 s.a, Value.int .u64 s.b, Value.int .u64 s.c, Value.int .u64 s.d] ++ tl.map (Value.int .u8) ++ [Value.int .i64 n]) : C = HC s tl n := by
  apply Array.ext'
  rw [h, HC_list]
theorem HC_taken_set (s : S4) (tl : List Int) (n m : Nat) (h : tl.length = 32) : (HC s tl n).setIfInBounds 36 (.int .i64 m) = HC s tl m := by
  apply HC_of_list
  rw [Array.toList_setIfInBounds, HC_list, List.set_append_right _ _ (by simp [h])]
  simp [h]
theorem HC_state_set (s : S4) (tl : List Int) (n : Nat) (a b c d : Int) : ((((HC s tl n).setIfInBounds 0 (.int .u64 a)).setIfInBounds 1 (.int .u64 b)).setIfInBounds 2 (.int .u64 c)).setIfInBounds 3 (.int .u64 d) = HC ⟨a, b, c, d⟩ tl n := by
  apply HC_of_list
  simp only [Array.toList_setIfInBounds, HC_list]
  simp
theorem splice_list {α : Type} (pre T X : List α) (z : α) (o m : Nat) (hm : o + m ≤ T.length) : (pre ++ T ++ [z]).take (pre.length + o) ++ X ++ (pre ++ T ++ [z]).drop (pre.length + o + m) = pre ++ (T.take o ++ X ++ T.drop (o + m)) ++ [z] := by
  rw [List.append_assoc pre T [z], List.take_length_add_append, Nat.add_assoc, List.drop_length_add_append, List.take_append_of_le_length (by omega), List.drop_append_of_le_length hm]
  simp [List.append_assoc]
/-- A copy into the tail. -/
theorem copy_tail {w : World} {g o dl dc sl sc : Nat} {ad : Addr} {s : S4} {tl xs : List Int} {n : Nat} (hg : w.heap[g]? = some (.cells (HC s tl n) 78)) (hl : tl.length = 32) (hn : xs.length = Nat.min sl dl) (hfit : o + xs.length ≤ 32)
    (hsrc : ∀ j v, (xs.map (Value.int .u8))[j]? = some v → w.cell? (ad.add j) = some v) (ty : TypeId) :
    (Builtin.copy_ #[24, 24] ty #[.slice (some ⟨g, 4 + o, none⟩) dl dc, .slice (some ad) sl sc]).run Try.prog w = .ok (.int .i64 xs.length) (w.setRow g (HC s (tl.take o ++ xs ++ tl.drop (o + xs.length)) n)) := by
  have h := run_copy_row Try.prog w 24 24 ty 5 g (4 + o) dl dc ad sl sc (HC s tl n) 78 (xs.map (Value.int .u8)) Try.underlying24 (by kernel_rfl) hg (by simpa using hn) hsrc (by rw [HC_size]; simp; omega) (B8_one' _)
  rw [h]
  have e : ((HC s tl n).toList.take (4 + o) ++ xs.map (Value.int .u8) ++ (HC s tl n).toList.drop (4 + o + (xs.map (Value.int .u8)).length)).toArray = HC s (tl.take o ++ xs ++ tl.drop (o + xs.length)) n := by
    apply HC_of_list
    rw [HC_list, List.toList_toArray, List.length_map]
    have h := splice_list [Value.int .u64 s.a, Value.int .u64 s.b, Value.int .u64 s.c, Value.int .u64 s.d] (tl.map (Value.int .u8)) (xs.map (Value.int .u8)) (Value.int .i64 n) o xs.length (by simp; omega)
    rw [List.map_append, List.map_append, List.map_take, List.map_drop]
    exact h
  rw [e]
  simp [goInt]
/-- The load of the tail, whole. -/
theorem load23_tail {w : World} {g : Nat} {s : S4} {tl : List Int} {n : Nat} (hg : w.heap[g]? = some (.cells (HC s tl n) 78)) (hl : tl.length = 32) : (load23V (.pointer (some ⟨g, 4, none⟩))).run Try.prog w = .ok (.agg (B8 tl)) w := by
  have hr : w.rangeAt g 4 (tl.map (Value.int .u8)) := by
    intro j v hv
    have hj : j < tl.length := by have := (List.getElem?_eq_some_iff.1 hv).1; simpa using this
    rw [cell_of_row w g _ _ _ _ hg, HC_tail s tl n j hj, ← hv]
    simp [List.getElem?_eq_getElem hj]
  have := run_loadAt_mid (P := Try.prog) w g 4 55 (tl.map (Value.int .u8)) _ hr Try.underlying55 rfl (by rw [List.length_map, hl]; kernel_rfl)
  exact this
/-- The state behind i pieces of a text. -/
def stP (bs : List Int) : Nat → S4
  | 0 => s0
  | i + 1 => mix (stP bs i) (words ((bs.drop (32 * i)).take 32))
theorem stP_append (xs ys : List Int) : ∀ i, 32 * i ≤ xs.length → stP (xs ++ ys) i = stP xs i
  | 0, _ => rfl
  | i + 1, h => by
    have ih := stP_append xs ys i (by omega)
    unfold stP
    rw [ih, List.drop_append_of_le_length (by omega), List.take_append_of_le_length (by rw [List.length_drop]; omega)]
/-- What a Hash knows of the bytes that it has taken. -/
structure Inv (all : List Int) (s : S4) (tl : List Int) (n : Nat) : Prop where
  hn : n = all.length
  hs : s = stP all (n / 32)
  hl : tl.length = 32
  ht : tl.take (n % 32) = all.drop (32 * (n / 32))
  hb : ∀ x ∈ tl, 0 ≤ x ∧ x < 256
/-- .. between two pieces. -/
structure Mid (cur : List Int) (s : S4) (tl : List Int) : Prop where
  hm : cur.length % 32 = 0
  hs : s = stP cur (cur.length / 32)
  hl : tl.length = 32
  hb : ∀ x ∈ tl, 0 ≤ x ∧ x < 256
theorem stP_piece (cur p : List Int) (hm : cur.length % 32 = 0) (hp : p.length = 32) : stP (cur ++ p) ((cur ++ p).length / 32) = mix (stP cur (cur.length / 32)) (words p) := by
  have e : (cur ++ p).length / 32 = cur.length / 32 + 1 := by rw [List.length_append, hp]; omega
  rw [e]
  show mix (stP (cur ++ p) (cur.length / 32)) (words (((cur ++ p).drop (32 * (cur.length / 32))).take 32)) = _
  rw [stP_append cur p _ (by omega), show 32 * (cur.length / 32) = cur.length from by omega, List.drop_left, List.take_of_length_le (by omega)]
theorem Inv.start {all : List Int} {s : S4} {tl : List Int} {n : Nat} (h : Inv all s tl n) (h0 : n % 32 = 0) : Mid all s tl :=
  ⟨by rw [← h.hn]; exact h0, by rw [h.hs, h.hn], h.hl, h.hb⟩
theorem Inv.short {all bs : List Int} {s : S4} {tl : List Int} {n f : Nat} (h : Inv all s tl n) (hf : n % 32 = f) (hs : f + bs.length < 32) (hb : ∀ x ∈ bs, 0 ≤ x ∧ x < 256) :
    Inv (all ++ bs) s (tl.take f ++ bs ++ tl.drop (f + bs.length)) (n + bs.length) := by
  have hn := h.hn
  have hl := h.hl
  refine ⟨by rw [List.length_append, ← hn], ?_, ?_, ?_, ?_⟩
  · rw [show (n + bs.length) / 32 = n / 32 from by omega, stP_append _ _ _ (by omega), h.hs]
  · simp only [List.length_append, List.length_take, List.length_drop]; omega
  · rw [show (n + bs.length) % 32 = f + bs.length from by omega, show (n + bs.length) / 32 = n / 32 from by omega]
    have e : (tl.take f ++ bs).length = f + bs.length := by simp [hl]; omega
    rw [← e, List.take_left, List.drop_append_of_le_length (by omega), ← h.ht, hf]
  · intro x hx
    simp only [List.mem_append] at hx
    rcases hx with (hx | hx) | hx
    · exact h.hb x (List.mem_of_mem_take hx)
    · exact hb x hx
    · exact h.hb x (List.mem_of_mem_drop hx)
theorem Inv.full {all bs : List Int} {s : S4} {tl : List Int} {n f m : Nat} (h : Inv all s tl n) (hf : n % 32 = f) (hm : f + m = 32) (hbl : m ≤ bs.length) (hb : ∀ x ∈ bs, 0 ≤ x ∧ x < 256) :
    Mid (all ++ bs.take m) (mix s (words (tl.take f ++ bs.take m ++ tl.drop (f + m)))) (tl.take f ++ bs.take m ++ tl.drop (f + m)) := by
  have hn := h.hn
  have hl := h.hl
  have hbm : (bs.take m).length = m := by rw [List.length_take]; omega
  have e0 : tl.drop (f + m) = [] := List.drop_eq_nil_of_le (by omega)
  rw [e0, List.append_nil]
  have e1 : (all ++ bs.take m).length = n + m := by rw [List.length_append, hbm, hn]
  refine ⟨by rw [e1]; omega, ?_, by rw [List.length_append, hbm, List.length_take]; omega, ?_⟩
  · rw [e1, show (n + m) / 32 = n / 32 + 1 from by omega]
    show _ = mix (stP (all ++ bs.take m) (n / 32)) (words (((all ++ bs.take m).drop (32 * (n / 32))).take 32))
    rw [stP_append _ _ _ (by omega), ← h.hs, List.drop_append_of_le_length (by omega), ← h.ht, hf, List.take_of_length_le (l := tl.take f ++ bs.take m) (by rw [List.length_append, hbm, List.length_take]; omega)]
  · intro x hx
    simp only [List.mem_append] at hx
    rcases hx with hx | hx
    · exact h.hb x (List.mem_of_mem_take hx)
    · exact hb x (List.mem_of_mem_take hx)
theorem Mid.piece {cur p : List Int} {s : S4} {tl : List Int} (h : Mid cur s tl) (hp : p.length = 32) (hb : ∀ x ∈ p, 0 ≤ x ∧ x < 256) : Mid (cur ++ p) (mix s (words p)) p :=
  ⟨by rw [List.length_append, hp]; have := h.hm; omega, by rw [stP_piece cur p h.hm hp, h.hs], hp, hb⟩
theorem Mid.stop {cur rs : List Int} {s : S4} {tl : List Int} (h : Mid cur s tl) (hr : rs.length < 32) (hb : ∀ x ∈ rs, 0 ≤ x ∧ x < 256) : Inv (cur ++ rs) s (rs ++ tl.drop rs.length) (cur.length + rs.length) := by
  have hm := h.hm
  refine ⟨by rw [List.length_append], ?_, by rw [List.length_append, List.length_drop, h.hl]; omega, ?_, ?_⟩
  · rw [show (cur.length + rs.length) / 32 = cur.length / 32 from by omega, stP_append _ _ _ (by omega), h.hs]
  · rw [show (cur.length + rs.length) % 32 = rs.length from by omega, show 32 * ((cur.length + rs.length) / 32) = cur.length from by omega, List.take_left, List.drop_left]
  · intro x hx
    rcases List.mem_append.1 hx with hx | hx
    · exact hb x hx
    · exact h.hb x (List.mem_of_mem_drop hx)
attribute [local go_sem ↓] load23_fold Go.wp_at_zero Go.wp_at_succ
/-- Write's world: the Hash, the bytes that are handed in. -/
structure Ws (g gb off : Nat) (w0 w : World) (bs : List Int) (s : S4) (tl : List Int) (n : Nat) : Prop where
  hg : w.heap[g]? = some (.cells (HC s tl n) 78)
  t : Touch g w0 w
  hc : ∀ j, j < bs.length → w.cell? ⟨gb, off + j, none⟩ = some (.int .u8 (bs.getD j 0))
theorem wpl_copy {w : World} {ops : Array Oper} {rest : List Oper} {o : Oper} {a : Act} {Q : Exit → Act → World → Prop} (hgd : o.guard = none) (d x : Operand)
    (ho : o.op = .call { callee := .builtin .copy, args := #[d, x], argTypes := #[24, 24] }) (v u : Value) (hd : a.eval d = v) (hx : a.eval x = u) {v' : Value} {w' : World}
    (hr : (Builtin.copy_ #[24, 24] o.type #[v, u]).run Try.prog w = .ok v' w') (h : wpList Try.prog ops Q rest (a.put o.dst v') w') : wpList Try.prog ops Q (o :: rest) a w := by
  refine wpList_plain hgd fun K hK => ?_
  unfold Oper.wp
  simp [execOp, ho, resolve, invoke, builtin, hd, hx, hr, Result.andThen]
  exact hK _ _ h
theorem Ws.tail {g gb off : Nat} {w0 w : World} {bs : List Int} {s : S4} {tl : List Int} {n : Nat} (h : Ws g gb off w0 w bs s tl n) (hgb : gb ≠ g) (tl' : List Int) : Ws g gb off w0 (w.setRow g (HC s tl' n)) bs s tl' n :=
  ⟨setRow_heap _ _ _ _ _ _ h.hg, h.t.trans (Touch.setRow _ _ _), fun j hj => (World.cell?_of_block (w := w) (setRow_other _ _ _ _ hgb)).trans (h.hc j hj)⟩
theorem Ws.drew {g gb off : Nat} {w0 w : World} {bs : List Int} {s : S4} {tl : List Int} {n : Nat} (h : Ws g gb off w0 w bs s tl n) : Ws g gb off w0 w.drew bs s tl n := ⟨h.hg, h.t.trans (Touch.drew _ _), h.hc⟩
theorem Ws.call {g gb off : Nat} {w0 w w1 : World} {bs : List Int} {s : S4} {tl : List Int} {n : Nat} (h : Ws g gb off w0 w bs s tl n) (hb : Below w.heap.size w w1) : Ws g gb off w0 w1 bs s tl n :=
  ⟨Below.row hb h.hg, h.t.trans (Touch.of_below hb), fun j hj => (hb.cell (p := ⟨gb, off + j, none⟩) (block_lt_of_cell (h.hc j hj))).trans (h.hc j hj)⟩
theorem Ws.state {g gb off : Nat} {w0 w : World} {bs : List Int} {s : S4} {tl : List Int} {n : Nat} (h : Ws g gb off w0 w bs s tl n) (hgb : gb ≠ g) (a b c d : Int) :
    Ws g gb off w0 ((((w.setCell ⟨g, 0, none⟩ (.int .u64 a)).setCell ⟨g, 1, none⟩ (.int .u64 b)).setCell ⟨g, 2, none⟩ (.int .u64 c)).setCell ⟨g, 3, none⟩ (.int .u64 d)) bs ⟨a, b, c, d⟩ tl n := by
  have h1 := heap_setCell_same w g 0 _ 78 (.int .u64 a) h.hg
  have h2 := heap_setCell_same _ g 1 _ 78 (.int .u64 b) h1
  have h3 := heap_setCell_same _ g 2 _ 78 (.int .u64 c) h2
  have h4 := heap_setCell_same _ g 3 _ 78 (.int .u64 d) h3
  rw [HC_state_set] at h4
  exact ⟨h4, (((h.t.trans (Touch.setCell _ _ _ _)).trans (Touch.setCell _ _ _ _)).trans (Touch.setCell _ _ _ _)).trans (Touch.setCell _ _ _ _), fun j hj => by
    have e := other4 (w := w) hgb (.int .u64 a) (.int .u64 b) (.int .u64 c) (.int .u64 d)
    have e2 : ((((w.setCell ⟨g, 0, none⟩ (.int .u64 a)).setCell ⟨g, 1, none⟩ (.int .u64 b)).setCell ⟨g, 2, none⟩ (.int .u64 c)).setCell ⟨g, 3, none⟩ (.int .u64 d)).cell? ⟨gb, off + j, none⟩ = w.cell? ⟨gb, off + j, none⟩ := World.cell?_of_block e
    rw [e2]
    exact h.hc j hj⟩
theorem Ws.first {g gb off : Nat} {w : World} {bs : List Int} {s : S4} {tl : List Int} {n m : Nat} (hg : w.heap[g]? = some (.cells (HC s tl n) 78)) (hl : tl.length = 32) (hc : ∀ j, j < bs.length → w.cell? ⟨gb, off + j, none⟩ = some (.int .u8 (bs.getD j 0))) (hgb : gb ≠ g) {p : Int} (hp : p = (m : Nat)) :
    Ws g gb off w (w.setCell ⟨g, 36, none⟩ (.int .i64 p)) bs s tl m := by
  subst hp
  have h1 := heap_setCell_same w g 36 _ 78 (.int .i64 (m : Nat)) hg
  rw [HC_taken_set _ _ _ _ hl] at h1
  exact ⟨h1, Touch.setCell _ _ _ _, fun j hj => (World.cell?_of_block (w := w) (heap_setCell_other _ _ _ _ hgb)).trans (hc j hj)⟩
/-- The bytes of a piece of what was handed in, for a copy. -/
theorem src_of {w : World} {gb off k m : Nat} {bs : List Int} (hc : ∀ j, j < bs.length → w.cell? ⟨gb, off + j, none⟩ = some (.int .u8 (bs.getD j 0))) : ∀ j v, (((bs.drop k).take m).map (Value.int .u8))[j]? = some v → w.cell? ((⟨gb, off + k, none⟩ : Addr).add j) = some v := by
  intro j v hv
  have hadd : (⟨gb, off + k, none⟩ : Addr).add j = ⟨gb, off + (k + j), none⟩ := by unfold Addr.add; split <;> simp_all [Nat.add_assoc]
  have hj := (List.getElem?_eq_some_iff.1 hv).1
  simp at hj
  rw [hadd, hc (k + j) (by omega), ← hv]
  simp [hj, List.getElem?_eq_getElem (show k + j < bs.length by omega)]
set_option maxHeartbeats 4000000 in
theorem write_some (g gb off len cap : Nat) (a b c d : Int) (tl : List Int) (n : Nat) (all bs : List Int) (w : World) (hinv : Inv all ⟨a, b, c, d⟩ tl n) (hbs : bs.length = len) (hpos : 0 < len) (hcap : len ≤ cap) (hm : cap ≤ maxLen) (hsum : n + len < 9223372036854775808)
    (hb : ∀ x ∈ bs, 0 ≤ x ∧ x < 256) (hgb : gb ≠ g) (hg : w.heap[g]? = some (.cells (HC ⟨a, b, c, d⟩ tl n) 78)) (hc : ∀ j, j < bs.length → w.cell? ⟨gb, off + j, none⟩ = some (.int .u8 (bs.getD j 0))) :
    Calls Try.prog 55 #[.pointer (some ⟨g, 0, none⟩), .slice (some ⟨gb, off, none⟩) len cap] w fun e w' => e = .returned (.tuple #[]) ∧ (∃ s' tl', Inv (all ++ bs) s' tl' (n + len) ∧ w'.heap[g]? = some (.cells (HC s' tl' (n + len)) 78)) ∧ Touch g w w' := by
  unfold maxLen at hm
  obtain ⟨c0, c1, c2, c3, c36, cf⟩ := cellsH hg hinv.hl
  have HW := Hid.mk hc
  have HG := Hid.mk hg
  have HN := Hid.mk hinv.hn
  clear hg hc
  have F0 := Ws.first (m := n + len) HG.out hinv.hl HW.out hgb (show (n : Int) + len = ((n + len : Nat) : Int) from by omega)
  have HF0 := Hid.mk F0
  have HIN := Hid.mk hinv
  clear HG HW F0 hinv
  obtain ⟨f, hff⟩ : ∃ f, n % 32 = f := ⟨_, rfl⟩
  have hmod0 : (n : Int) % 32 = (f : Int) := by omega
  have hmod := Hid.mk hmod0
  clear hmod0
  have hf2 : f < 32 := by omega
  have hff' := Hid.mk hff
  clear hff
  go_enter Try.func55, Try.ntmps55
  go_upto_if 22 with fail
  rw [hmod.out]
  go_cut [1] (fun t v => ∃ (k : Nat) (ad : Option Addr) (s : S4) (tl : List Int), k ≤ len ∧ t = .slice ad (len - k) (cap - k) ∧ (k < len → ad = some ⟨gb, off + k, none⟩) ∧ Mid (all ++ bs.take k) s tl ∧ Ws g gb off w v bs s tl (n + len))
  case first =>
    by_cases hf : f = 0
    · subst hf
      go_wp2_with fail
      go_meet
      case rel => exact ⟨0, some ⟨gb, off, none⟩, ⟨a, b, c, d⟩, tl, by omega, rfl, fun _ => rfl, by have := HIN.out.start hff'.out; simpa using this, HF0.out⟩
    · have hf0 : (0 : Int) < (f : Int) := by omega
      have hf1 : (f : Int) ≤ 32 := by omega
      have hinv := HIN.out
      have hff := hff'.out
      by_cases hsh : f + len < 32
      · have hcp := fun ty => copy_tail (o := f) (dl := 32 - f) (dc := 32 - f) (sl := len) (sc := cap) (ad := ⟨gb, off + 0, none⟩) (xs := (bs.drop 0).take len) HF0.out.hg hinv.hl (by rw [List.length_take, List.drop_zero, hbs, Nat.min_self]; exact (Nat.min_eq_left (by omega)).symm) (by rw [List.length_take, List.drop_zero]; omega) (src_of HF0.out.hc) ty
        rw [List.drop_zero, List.take_of_length_le (by omega), hbs] at hcp
        have I := hinv.short hff (by omega) hb
        rw [hbs] at I
        have T := HF0.out.tail hgb (tl.take f ++ bs ++ tl.drop (f + len))
        generalize tl.take f ++ bs ++ tl.drop (f + len) = ps at hcp I T
        have HCP := Hid.mk hcp
        have HI := Hid.mk (And.intro I T)
        have hlt : (f : Int) + (len : Int) < 32 := by omega
        clear hcp I T hff hinv
        go_wp2_with (first | refine wpl_copy rfl _ _ rfl _ _ rfl rfl (HCP.out _) ?_)
        go_returns
        exact ⟨rfl, ⟨_, _, HI.out.1, HI.out.2.hg⟩, HI.out.2.t⟩
      · obtain ⟨m, hmm⟩ : ∃ m, f + m = 32 := ⟨32 - f, by omega⟩
        have hcp := fun ty => copy_tail (o := f) (dl := 32 - f) (dc := 32 - f) (sl := len) (sc := cap) (ad := ⟨gb, off + 0, none⟩) (xs := (bs.drop 0).take m) HF0.out.hg hinv.hl (by rw [List.length_take, List.drop_zero, hbs, Nat.min_eq_left (by omega)]; exact (by rw [show 32 - f = m from by omega]; exact (Nat.min_eq_right (by omega)).symm)) (by rw [List.length_take, List.drop_zero]; omega) (src_of HF0.out.hc) ty
        have hml : (bs.take m).length = m := by rw [List.length_take]; omega
        rw [List.drop_zero, hml] at hcp
        have M1 := hinv.full hff hmm (by omega) hb
        have T := HF0.out.tail hgb (tl.take f ++ bs.take m ++ tl.drop (f + m))
        generalize tl.take f ++ bs.take m ++ tl.drop (f + m) = ps at hcp M1 T
        have HCP := Hid.mk hcp
        have HT := Hid.mk T
        have HM1 := Hid.mk M1
        have hlt : ¬ (f : Int) + (m : Int) < 32 := by omega
        have hm0 : (m : Int) ≤ len := by omega
        have hm1 : (m : Int) ≤ cap := by omega
        clear hcp T hff hinv M1 hml
        go_wp2_with (first | refine wpl_copy rfl _ _ rfl _ _ rfl rfl (HCP.out _) ?_)
        refine gen_w (p := fun v => Code.wp _ _ _ _ v) (q := fun v => Ws g gb off w v bs ⟨a, b, c, d⟩ ps (n + len)) HT.out ?_
        clear HCP HT HF0 c0 c1 c2 c3 c36 cf
        intro v F
        have HP : Hid (ps.length = 32 ∧ ∀ x ∈ ps, 0 ≤ x ∧ x < 256) := ⟨HM1.out.hl, HM1.out.hb⟩
        obtain ⟨c0, c1, c2, c3, c36, cf⟩ := cellsH F.hg HP.out.1
        have l4 := load23_tail (w := v.drew) F.hg HP.out.1
        go_region_with (first
          | (go_at_call 72; refine (words_any ps HP.out.1 HP.out.2 _).mono ?_; rintro e w6 ⟨⟨ma, mb, mc, md, rfl, H6⟩, hb6⟩; have F3 := F.drew.call hb6; clear hb6; obtain ⟨c0, c1, c2, c3, c36, cf⟩ := cellsH F3.hg HP.out.1)
          | (go_at_call 71; refine (mix_any _ _ _ _ _ _ _ _ _).mono ?_; rintro e w7 ⟨⟨a7, b7, c7, d7, rfl, H7⟩, hb7⟩; have F4 := F3.call hb7; clear hb7; obtain ⟨c0, c1, c2, c3, c36, cf⟩ := cellsH F4.hg HP.out.1))
        all_goals
          refine gen_w (p := fun v => Exit.then _ _ _ _ v) (q := fun v => Ws g gb off w v bs ⟨a7, b7, c7, d7⟩ ps (n + len)) (F4.state hgb _ _ _ _) ?_
          have M0 : Mid (all ++ bs.take m) ⟨a7, b7, c7, d7⟩ ps := by rw [H7.out, H6.out]; exact HM1.out
          clear l4 c0 c1 c2 c3 c36 cf F F3 F4 H6 H7 HM1 HP
          intro v5 F0
          have HM0 := Hid.mk M0
          have HF5 := Hid.mk F0
          clear M0 F0
          go_wp2_with fail
          all_goals
            go_meet
            case rel =>
              first
                | exact ⟨m, some ⟨gb, off + m, none⟩, ⟨a7, b7, c7, d7⟩, ps, by omega, rfl, fun _ => rfl, HM0.out, HF5.out⟩
                | exact ⟨m, some ⟨gb, off, none⟩, ⟨a7, b7, c7, d7⟩, ps, by omega, by simp <;> omega, fun h => by exfalso; omega, HM0.out, HF5.out⟩
  case rest =>
    clear HF0 HIN c0 c1 c2 c3 c36 cf hmod hf2 hff'
    obtain ⟨k0, ad0, s0', tl0, hk0, rfl, had0, M0, F0⟩ := hcut
    have HM0 := Hid.mk (And.intro M0 F0)
    have HA0 := Hid.mk had0
    clear M0 F0 had0
    go_wp2_with fail
    go_loopw [1] (fun t v => ∃ (k : Nat) (ad : Option Addr) (s : S4) (tl : List Int), k ≤ len ∧ t = .slice ad (len - k) (cap - k) ∧ (k < len → ad = some ⟨gb, off + k, none⟩) ∧ Mid (all ++ bs.take k) s tl ∧ Ws g gb off w v bs s tl (n + len)) (fun t _ => lenOf t)
    case atStart => exact ⟨k0, ad0, s0', tl0, hk0, rfl, HA0.out, HM0.out.1, HM0.out.2⟩
    case round =>
      clear HM0 HA0 hk0
      obtain ⟨k, ad, ⟨a, b, c, d⟩, tl, hk, rfl, had, M, F⟩ := hrel
      by_cases hlt : k + 32 ≤ len
      · have had := had (by omega)
        subst had
        have hli : (32 : Int) ≤ ((len - k : Nat) : Int) := by omega
        have hxl : ((bs.drop k).take 32).length = 32 := by rw [List.length_take, List.length_drop]; omega
        have hcp := fun ty => copy_tail (o := 0) (dl := 32) (dc := 32) (sl := len - k) (sc := cap - k) (ad := ⟨gb, off + k, none⟩) (xs := (bs.drop k).take 32) F.hg M.hl (by rw [hxl]; exact (Nat.min_eq_right (by omega)).symm) (by omega) (src_of F.hc) ty
        have HCP := Hid.mk hcp
        clear hcp
        go_wp2_with (first | refine wpl_copy rfl _ _ rfl _ _ rfl rfl (HCP.out _) ?_)
        refine gen_w (p := fun v => Code.wp _ _ _ _ v) (q := fun v => Ws g gb off w v bs ⟨a, b, c, d⟩ ((bs.drop k).take 32) (n + len)) (by have T := F.tail hgb ((bs.drop k).take 32); rw [show List.drop 32 tl = [] from List.drop_eq_nil_of_le (by rw [M.hl]; omega), List.append_nil]; exact T) ?_
        have hpb : ∀ x ∈ (bs.drop k).take 32, 0 ≤ x ∧ x < 256 := fun x hx => hb x (List.mem_of_mem_drop (List.mem_of_mem_take hx))
        have M2 := M.piece hxl hpb
        have etk : all ++ bs.take k ++ (bs.drop k).take 32 = all ++ bs.take (k + 32) := by rw [List.append_assoc, List.take_add]
        rw [etk] at M2
        have HP := Hid.mk (And.intro hxl hpb)
        generalize (bs.drop k).take 32 = ps at HP M2
        clear etk hxl hpb F M HCP
        intro v F
        obtain ⟨c0, c1, c2, c3, c36, cf⟩ := cellsH F.hg HP.out.1
        have l4 := load23_tail (w := v.drew) F.hg HP.out.1
        go_region_with (first
          | (go_at_call 72; refine (words_any ps HP.out.1 HP.out.2 _).mono ?_; rintro e w6 ⟨⟨ma, mb, mc, md, rfl, H6⟩, hb6⟩; have F3 := F.drew.call hb6; clear hb6; obtain ⟨c0, c1, c2, c3, c36, cf⟩ := cellsH F3.hg HP.out.1)
          | (go_at_call 71; refine (mix_any _ _ _ _ _ _ _ _ _).mono ?_; rintro e w7 ⟨⟨a7, b7, c7, d7, rfl, H7⟩, hb7⟩; have F4 := F3.call hb7; clear hb7; obtain ⟨c0, c1, c2, c3, c36, cf⟩ := cellsH F4.hg HP.out.1))
        all_goals
          refine gen_w (p := fun v => Exit.then _ _ _ _ v) (q := fun v => Ws g gb off w v bs ⟨a7, b7, c7, d7⟩ ps (n + len)) (F4.state hgb _ _ _ _) ?_
          have M3 : Mid (all ++ bs.take (k + 32)) ⟨a7, b7, c7, d7⟩ ps := by rw [H7.out, H6.out]; exact M2
          clear l4 c0 c1 c2 c3 c36 cf F F3 F4 H6 H7 M2 HP
          intro v5 F5
          have HM := Hid.mk (And.intro M3 F5)
          clear M3 F5
          go_wp2_with fail
          all_goals
            first
              | exact ⟨⟨k + 32, (if cap - k = 32 then some ⟨gb, off + k, none⟩ else some ⟨gb, off + k + 32, none⟩), _, _, by omega, by rw [Nat.sub_sub, Nat.sub_sub], fun h => by rw [if_neg (by omega), Nat.add_assoc], HM.out.1, HM.out.2⟩, by simp [lenOf]; omega⟩
              | (refine ⟨⟨k + 32, by omega, _, ⟨rfl, by omega, by omega⟩, fun h => ?_, _, _, HM.out.1, HM.out.2⟩, by simp [lenOf]; omega⟩
                 first | (exfalso; omega) | (rw [Nat.add_assoc]))
      · have hrl : (bs.drop k).length = len - k := by rw [List.length_drop]; omega
        have hli : ¬ (32 : Int) ≤ ((len - k : Nat) : Int) := by omega
        have hrb : ∀ x ∈ bs.drop k, 0 ≤ x ∧ x < 256 := fun x hx => hb x (List.mem_of_mem_drop hx)
        have I := M.stop (rs := bs.drop k) (by omega) hrb
        have ecur : (all ++ bs.take k).length + (bs.drop k).length = n + len := by rw [List.length_append, List.length_take, List.length_drop, ← HN.out]; omega
        rw [ecur, List.append_assoc, List.take_append_drop] at I
        have T := F.tail hgb (bs.drop k ++ tl.drop (bs.drop k).length)
        rw [hrl] at I T
        have HF := Hid.mk (And.intro I T.hg)
        by_cases hke : k = len
        · have hz : bs.drop k ++ tl.drop (len - k) = tl := by rw [List.drop_eq_nil_of_le (by omega), show len - k = 0 from by omega]; simp
          rw [hz] at I
          have HF := Hid.mk (And.intro I F.hg)
          have ht := F.t
          clear I T F M had hrl hrb ecur hz
          go_wp2_with (first | (refine wpList_copy_nothing rfl _ _ 24 24 rfl 5 Try.underlying24 (by kernel_rfl) _ _ _ _ _ _ rfl rfl (by simp; omega) ?_))
          go_end0
          exact ⟨rfl, ⟨_, _, HF.out.1, HF.out.2⟩, ht⟩
        · have had := had (by omega)
          subst had
          have hcp := fun ty => copy_tail (o := 0) (dl := 32) (dc := 32) (sl := len - k) (sc := cap - k) (ad := ⟨gb, off + k, none⟩) (xs := (bs.drop k).take (len - k)) F.hg M.hl (by rw [List.length_take, hrl]; exact (by rw [Nat.min_self]; exact (Nat.min_eq_left (by omega)).symm)) (by rw [List.length_take, hrl]; omega) (src_of F.hc) ty
          rw [List.take_of_length_le (Nat.le_of_eq hrl)] at hcp
          have HCP := Hid.mk hcp
          have ht := T.t
          clear hcp I T F M hrl hrb ecur
          go_wp2_with (first | refine wpl_copy rfl _ _ rfl _ _ rfl rfl (HCP.out _) ?_)
          go_end0
          exact ⟨rfl, ⟨_, _, HF.out.1, HF.out.2⟩, ht⟩
end Go.Proofs.Ytmofehloiiopfaa.Di
/- The plain law beneath: what Sum tells of a Hash that has taken some bytes is the document's digest of them, whatever they are. -/
namespace Go.Proofs.Ytmofehloiiopfaa.Di
set_option maxRecDepth 100000
open Go.RowKit
set_option linter.unusedVariables false
theorem wd_congr (xs ys : List Int) (p q : Nat) : ∀ k, (∀ j, j < k → xs.getD (p + j) 0 = ys.getD (q + j) 0) → wd xs p k = wd ys q k
  | 0, _ => rfl
  | k + 1, h => by
    unfold wd
    rw [wd_congr xs ys p q k (fun j hj => h j (by omega)), h k (by omega)]
theorem wfold_a (bs : List Int) : ∀ k, k ≤ 8 → wfold bs k = ⟨wd bs 0 k, 0, 0, 0⟩
  | 0, _ => rfl
  | k + 1, h => by
    show wstep (wfold bs k) k (bs.getD k 0) = _
    rw [wfold_a bs k (by omega)]
    unfold wstep
    rw [if_pos (by omega)]
    show _ = S4.mk (or8 (wd bs 0 k) (bs.getD (0 + k) 0)) 0 0 0
    rw [Nat.zero_add]
theorem wfold_b (bs : List Int) : ∀ k, k ≤ 8 → wfold bs (8 + k) = ⟨wd bs 0 8, wd bs 8 k, 0, 0⟩
  | 0, _ => wfold_a bs 8 (by omega)
  | k + 1, h => by
    show wstep (wfold bs (8 + k)) (8 + k) (bs.getD (8 + k) 0) = _
    rw [wfold_b bs k (by omega)]
    unfold wstep
    rw [if_neg (by omega), if_pos (by omega)]
    rfl
theorem wfold_c (bs : List Int) : ∀ k, k ≤ 8 → wfold bs (16 + k) = ⟨wd bs 0 8, wd bs 8 8, wd bs 16 k, 0⟩
  | 0, _ => wfold_b bs 8 (by omega)
  | k + 1, h => by
    show wstep (wfold bs (16 + k)) (16 + k) (bs.getD (16 + k) 0) = _
    rw [wfold_c bs k (by omega)]
    unfold wstep
    rw [if_neg (by omega), if_neg (by omega), if_pos (by omega)]
    rfl
theorem wfold_d (bs : List Int) : ∀ k, k ≤ 8 → wfold bs (24 + k) = ⟨wd bs 0 8, wd bs 8 8, wd bs 16 8, wd bs 24 k⟩
  | 0, _ => wfold_c bs 8 (by omega)
  | k + 1, h => by
    show wstep (wfold bs (24 + k)) (24 + k) (bs.getD (24 + k) 0) = _
    rw [wfold_d bs k (by omega)]
    unfold wstep
    rw [if_neg (by omega), if_neg (by omega), if_neg (by omega)]
    rfl
theorem words_eq (bs : List Int) : words bs = ⟨wd bs 0 8, wd bs 8 8, wd bs 16 8, wd bs 24 8⟩ := wfold_d bs 8 (by omega)
theorem getD_piece (P : List Int) (p j : Nat) (hj : j < 32) : ((P.drop p).take 32).getD j 0 = P.getD (p + j) 0 := by
  simp [List.getD, hj]
theorem words_at (P : List Int) (p : Nat) : wordsAt P p = words ((P.drop p).take 32) := by
  rw [words_eq]
  unfold wordsAt
  rw [wd_congr P ((P.drop p).take 32) p 0 8 (fun j hj => by rw [getD_piece P p _ (by omega), Nat.zero_add]), wd_congr P ((P.drop p).take 32) (p + 8) 8 8 (fun j hj => by rw [getD_piece P p _ (by omega), Nat.add_assoc]),
    wd_congr P ((P.drop p).take 32) (p + 16) 16 8 (fun j hj => by rw [getD_piece P p _ (by omega), Nat.add_assoc]), wd_congr P ((P.drop p).take 32) (p + 24) 24 8 (fun j hj => by rw [getD_piece P p _ (by omega), Nat.add_assoc])]
theorem len_step (n : Int) (c : Int) (h0 : 0 ≤ n) (h1 : n < 18446744073709551616) (hc : 0 < c) : (n / (c * 256) * 256 + n / c % 256) % 18446744073709551616 = n / c := by
  have e : n / (c * 256) = n / c / 256 := (Int.ediv_ediv_of_nonneg (by omega)).symm
  have h2 : 0 ≤ n / c := Int.ediv_nonneg h0 (by omega)
  have h3 : n / c ≤ n := Int.ediv_le_self _ h0
  rw [e]
  omega
/-- The eight bytes of a length are that length. -/
theorem wd_len (L : List Int) (n : Nat) (hn : n < 18446744073709551616) (h : ∀ k, k < 8 → L.getD (24 + k) 0 = (n : Int) / 2 ^ (56 - 8 * k) % 256) : wd L 24 8 = n := by
  have hi0 : (0 : Int) ≤ n := by omega
  have hi1 : (n : Int) < 18446744073709551616 := by omega
  have st : ∀ k (c : Int), k < 8 → (2 : Int) ^ (56 - 8 * k) = c → 0 < c → wd L 24 k = (n : Int) / (c * 256) → wd L 24 (k + 1) = (n : Int) / c := by
    intro k c hk he hc hw
    show or8 (wd L 24 k) (L.getD (24 + k) 0) = _
    rw [hw, h k hk, he]
    unfold or8 wr
    rw [IntKind.wrap_u64]
    exact len_step n c hi0 hi1 hc
  have w0 : wd L 24 0 = (n : Int) / (72057594037927936 * 256) := by
    show (0 : Int) = _
    omega
  have w1 := st 0 72057594037927936 (by omega) (by decide) (by omega) w0
  have w2 := st 1 281474976710656 (by omega) (by decide) (by omega) w1
  have w3 := st 2 1099511627776 (by omega) (by decide) (by omega) w2
  have w4 := st 3 4294967296 (by omega) (by decide) (by omega) w3
  have w5 := st 4 16777216 (by omega) (by decide) (by omega) w4
  have w6 := st 5 65536 (by omega) (by decide) (by omega) w5
  have w7 := st 6 256 (by omega) (by decide) (by omega) w6
  have w8 := st 7 1 (by omega) (by decide) (by omega) w7
  rw [w8]
  omega
theorem getD_left (xs ys : List Int) (j : Nat) (h : j < xs.length) : (xs ++ ys).getD j 0 = xs.getD j 0 := by
  rw [List.getD, List.getD, List.getElem?_append_left h]
theorem getD_right (xs ys : List Int) (j : Nat) (h : xs.length ≤ j) : (xs ++ ys).getD j 0 = ys.getD (j - xs.length) 0 := by
  rw [List.getD, List.getD, List.getElem?_append_right h]
theorem getD_zeros (m j : Nat) : (List.replicate m (0 : Int)).getD j 0 = 0 := by
  rw [List.getD, List.getElem?_replicate]
  split <;> rfl
theorem padded_in (all : List Int) (j : Nat) (h : j < all.length) : (padded all).getD j 0 = all.getD j 0 := by
  unfold padded
  rw [getD_left _ _ _ (by simp; omega), getD_left _ _ _ (by simp; omega), getD_left _ _ _ h]
theorem padded_mark (all : List Int) : (padded all).getD all.length 0 = 128 := by
  unfold padded
  rw [getD_left _ _ _ (by simp <;> omega), getD_left _ _ _ (by simp), getD_right _ _ _ (Nat.le_refl _), Nat.sub_self]
  rfl
theorem padded_zero (all : List Int) (j : Nat) (h1 : all.length < j) (h2 : j < all.length + 1 + zc all.length) : (padded all).getD j 0 = 0 := by
  unfold padded
  rw [getD_left _ _ _ (by simp; omega), getD_right _ _ _ (by simp; omega), getD_zeros]
theorem padded_tail (all : List Int) (k : Nat) (hk : k < 8) : (padded all).getD (all.length + 1 + zc all.length + k) 0 = (all.length : Int) / 2 ^ (56 - 8 * k) % 256 := by
  unfold padded
  rw [getD_right _ _ _ (by simp; omega)]
  have e : all.length + 1 + zc all.length + k - (all ++ [128] ++ List.replicate (zc all.length) 0).length = k := by
    rw [List.length_append, List.length_append, List.length_replicate]
    show all.length + 1 + zc all.length + k - (all.length + 1 + zc all.length) = k
    omega
  rw [e]
  simp [len8, List.getD, hk]
theorem lastOf_at (f : Nat) (tl : List Int) (hl : tl.length = 32) (hf : f < 32) (j : Nat) (hj : j < 32) : (lastOf f tl).getD j 0 = if j < f then tl.getD j 0 else if j = f then 128 else 0 := by
  unfold lastOf
  rw [List.getD, List.getElem?_set]
  have e : (List.take f tl).length = f := by rw [List.length_take]; omega
  by_cases h1 : f = j
  · subst h1
    rw [if_pos rfl, if_pos (by rw [List.length_append, e, List.length_replicate]; omega), if_neg (by omega), if_pos rfl]
    rfl
  · rw [if_neg h1, ← List.getD]
    by_cases h2 : j < f
    · rw [if_pos h2, getD_left _ _ _ (by omega), List.getD, List.getD, List.getElem?_take_of_lt h2]
    · rw [if_neg h2, if_neg (fun h => h1 h.symm), getD_right _ _ _ (by omega), getD_zeros]
theorem stOf_stP (P : List Int) : ∀ i, stOf P i = stP P i
  | 0 => rfl
  | i + 1 => by
    show mix (stOf P i) (wordsAt P (32 * i)) = mix (stP P i) (words ((P.drop (32 * i)).take 32))
    rw [stOf_stP P i, words_at]
/-- What Sum tells of a Hash that has taken 'all' is the document's digest of 'all'. -/
theorem fin_ref (all : List Int) (s : S4) (tl : List Int) (n : Nat) (h : Inv all s tl n) (hn : n < 18446744073709551616) : finS s tl n = stOf (padded all) ((padded all).length / 32) := by
  have hnl := h.hn
  have hl := h.hl
  obtain ⟨q, hq⟩ : ∃ q, n / 32 = q := ⟨_, rfl⟩
  obtain ⟨f, hf⟩ : ∃ f, n % 32 = f := ⟨_, rfl⟩
  have hnq : n = 32 * q + f := by omega
  have hf32 : f < 32 := by omega
  have hz : zc n = (55 - f) % 32 := by unfold zc; rw [hf]
  have htk : ∀ j, j < f → (padded all).getD (32 * q + j) 0 = tl.getD j 0 := by
    intro j hj
    rw [padded_in all _ (by omega)]
    have e := h.ht
    rw [hf, hq] at e
    have e2 : (tl.take f).getD j 0 = (all.drop (32 * q)).getD j 0 := by rw [e]
    rw [List.getD, List.getD, List.getElem?_take_of_lt hj, List.getElem?_drop] at e2
    rw [List.getD, List.getD]
    exact e2.symm
  have hmk : (padded all).getD (32 * q + f) 0 = 128 := by rw [← hnq, hnl]; exact padded_mark all
  have hS : stP (padded all) q = s := by
    rw [h.hs, hq]
    unfold padded
    rw [List.append_assoc, List.append_assoc]
    exact stP_append all _ q (by omega)
  have hpl := padded_length all
  rw [← hnl] at hpl
  rw [stOf_stP]
  unfold finS
  rw [hf]
  by_cases h24 : f < 24
  · rw [if_pos h24]
    have hzc : zc n = 23 - f := by rw [hz]; omega
    rw [show (padded all).length / 32 = q + 1 from by rw [hpl, hzc]; omega]
    show _ = mix (stP (padded all) q) (words (((padded all).drop (32 * q)).take 32))
    rw [hS]
    refine congrArg (mix s) ?_
    have hp : ∀ j, j < 24 → (lastOf f tl).getD j 0 = (((padded all).drop (32 * q)).take 32).getD j 0 := by
      intro j hj
      rw [getD_piece _ _ _ (by omega), lastOf_at f tl hl hf32 j (by omega)]
      by_cases h1 : j < f
      · rw [if_pos h1, htk j h1]
      · rw [if_neg h1]
        by_cases h2 : j = f
        · rw [if_pos h2, h2, hmk]
        · rw [if_neg h2, padded_zero all _ (by omega) (by rw [← hnl, hzc]; omega)]
    have hd : wd (((padded all).drop (32 * q)).take 32) 24 8 = n := by
      refine wd_len _ n hn fun k hk => ?_
      rw [getD_piece _ _ _ (by omega)]
      have e := padded_tail all k hk
      rw [← hnl, hzc] at e
      rw [show 32 * q + (24 + k) = n + 1 + (23 - f) + k from by omega]
      exact e
    rw [words_eq, words_eq (((padded all).drop (32 * q)).take 32), hd]
    rw [wd_congr (lastOf f tl) _ 0 0 8 (fun j hj => hp (0 + j) (by omega)), wd_congr (lastOf f tl) _ 8 8 8 (fun j hj => hp (8 + j) (by omega)), wd_congr (lastOf f tl) _ 16 16 8 (fun j hj => hp (16 + j) (by omega))]
  · rw [if_neg h24]
    have hzc : zc n = 55 - f := by rw [hz]; omega
    rw [show (padded all).length / 32 = q + 1 + 1 from by rw [hpl, hzc]; omega]
    show _ = mix (mix (stP (padded all) q) (words (((padded all).drop (32 * q)).take 32))) (words (((padded all).drop (32 * (q + 1))).take 32))
    rw [hS]
    have hp : ∀ j, j < 32 → (lastOf f tl).getD j 0 = (((padded all).drop (32 * q)).take 32).getD j 0 := by
      intro j hj
      rw [getD_piece _ _ _ hj, lastOf_at f tl hl hf32 j hj]
      by_cases h1 : j < f
      · rw [if_pos h1, htk j h1]
      · rw [if_neg h1]
        by_cases h2 : j = f
        · rw [if_pos h2, h2, hmk]
        · rw [if_neg h2, padded_zero all _ (by omega) (by rw [← hnl, hzc]; omega)]
    have e1 : words (lastOf f tl) = words (((padded all).drop (32 * q)).take 32) := by
      rw [words_eq, words_eq (((padded all).drop (32 * q)).take 32)]
      rw [wd_congr (lastOf f tl) _ 0 0 8 (fun j hj => hp (0 + j) (by omega)), wd_congr (lastOf f tl) _ 8 8 8 (fun j hj => hp (8 + j) (by omega)), wd_congr (lastOf f tl) _ 16 16 8 (fun j hj => hp (16 + j) (by omega)), wd_congr (lastOf f tl) _ 24 24 8 (fun j hj => hp (24 + j) (by omega))]
    rw [e1]
    refine congrArg (mix _) ?_
    have hp2 : ∀ j, j < 24 → (List.replicate 32 (0 : Int)).getD j 0 = (((padded all).drop (32 * (q + 1))).take 32).getD j 0 := by
      intro j hj
      rw [getD_piece _ _ _ (by omega), getD_zeros, padded_zero all _ (by omega) (by rw [← hnl, hzc]; omega)]
    have hd : wd (((padded all).drop (32 * (q + 1))).take 32) 24 8 = n := by
      refine wd_len _ n hn fun k hk => ?_
      rw [getD_piece _ _ _ (by omega)]
      have e := padded_tail all k hk
      rw [← hnl, hzc] at e
      rw [show 32 * (q + 1) + (24 + k) = n + 1 + (55 - f) + k from by omega]
      exact e
    rw [words_eq, words_eq (((padded all).drop (32 * (q + 1))).take 32), hd]
    rw [wd_congr (List.replicate 32 0) _ 0 0 8 (fun j hj => hp2 (0 + j) (by omega)), wd_congr (List.replicate 32 0) _ 8 8 8 (fun j hj => hp2 (8 + j) (by omega)), wd_congr (List.replicate 32 0) _ 16 16 8 (fun j hj => hp2 (16 + j) (by omega))]
end Go.Proofs.Ytmofehloiiopfaa.Di
/- What digest.Of answers: the document's digest, for all bytes; and Write of whatever bytes, Sum of whatever Hash, in the document's words. -/
namespace Go.Proofs.Ytmofehloiiopfaa.Di
set_option maxRecDepth 100000
open Go.RowKit
set_option linter.unusedVariables false
set_option maxHeartbeats 400000 in
theorem write_none (g : Nat) (a : Option Addr) (cap : Nat) (s : S4) (tl : List Int) (n : Nat) (w : World) (hl : tl.length = 32) (hn : n < 9223372036854775808) (hg : w.heap[g]? = some (.cells (HC s tl n) 78)) :
    Calls Try.prog 55 #[.pointer (some ⟨g, 0, none⟩), .slice a 0 cap] w fun e w' => e = .returned (.tuple #[]) ∧ w' = w.setCell ⟨g, 36, none⟩ (.int .i64 n) := by
  obtain ⟨xa, xb, xc, xd⟩ := s
  obtain ⟨c0, c1, c2, c3, c36, cf⟩ := cellsH hg hl
  clear hg
  obtain ⟨f, hff⟩ : ∃ f, n % 32 = f := ⟨_, rfl⟩
  have hmod : (n : Int) % 32 = (f : Int) := by omega
  have hf2 : f < 32 := by omega
  have hf3 : (f : Int) < 32 := by omega
  have hf4 : (f : Int) ≤ 32 := by omega
  clear hff
  by_cases hf : f = 0
  · subst hf
    go_enter Try.func55, Try.ntmps55
    go_wp2_with fail
    refine wp_loop_rounds 1 ?_
    rw [rounds_succ]
    go_wp2_with (first | (refine wpList_copy_nothing rfl _ _ 24 24 rfl 5 Try.underlying24 (by kernel_rfl) _ _ _ _ _ _ rfl rfl (by simp) ?_))
    go_end0
    exact ⟨rfl, rfl⟩
  · have hf0 : (0 : Int) < (f : Int) := by omega
    go_enter Try.func55, Try.ntmps55
    go_wp2_with (first | (refine wpList_copy_nothing rfl _ _ 24 24 rfl 5 Try.underlying24 (by kernel_rfl) _ _ _ _ _ _ rfl rfl (by simp) ?_))
    go_returns
    exact ⟨rfl, rfl⟩
/-- Bytes that are handed to Write: none, or a row of cells that is no part of block g. -/
def In2 (g : Nat) (w : World) (a : Option Addr) (len cap : Nat) (bs : List Int) : Prop :=
  (len = 0 ∧ bs = []) ∨ ∃ gb off, a = some ⟨gb, off, none⟩ ∧ bs.length = len ∧ 0 < len ∧ len ≤ cap ∧ cap ≤ maxLen ∧ gb ≠ g ∧ ∀ j, j < bs.length → w.cell? ⟨gb, off + j, none⟩ = some (.int .u8 (bs.getD j 0))
theorem write_any (g : Nat) (a : Option Addr) (len cap : Nat) (s : S4) (tl : List Int) (n : Nat) (all bs : List Int) (w : World) (hinv : Inv all s tl n) (hin : In2 g w a len cap bs) (hsum : n + len < 9223372036854775808)
    (hb : ∀ x ∈ bs, 0 ≤ x ∧ x < 256) (hg : w.heap[g]? = some (.cells (HC s tl n) 78)) :
    Calls Try.prog 55 #[.pointer (some ⟨g, 0, none⟩), .slice a len cap] w fun e w' => e = .returned (.tuple #[]) ∧ (∃ s' tl', Inv (all ++ bs) s' tl' (n + len) ∧ w'.heap[g]? = some (.cells (HC s' tl' (n + len)) 78)) ∧ Touch g w w' := by
  rcases hin with ⟨rfl, rfl⟩ | ⟨gb, off, rfl, h1, h2, h3, h4, h5, h6⟩
  · refine (write_none g a cap s tl n w hinv.hl (by omega) hg).mono ?_
    rintro e w' ⟨rfl, rfl⟩
    refine ⟨rfl, ⟨s, tl, by rw [List.append_nil]; exact hinv, ?_⟩, Touch.setCell _ _ _ _⟩
    have := heap_setCell_same w g 36 _ 78 (.int .i64 n) hg
    rw [HC_taken_set _ _ _ _ hinv.hl] at this
    exact this
  · obtain ⟨xa, xb, xc, xd⟩ := s
    exact write_some g gb off len cap xa xb xc xd tl n all bs w hinv h1 h2 h3 h4 hsum hb h5 hg h6
/-- The document's digest of some bytes. -/
def dref (bs : List Int) : List Int := dig (stOf (padded bs) ((padded bs).length / 32))
theorem dref_len (bs : List Int) : (dref bs).length = 32 := by simp [dref, dig]
theorem inv_new : Inv [] s0 (List.replicate 32 0) 0 := ⟨rfl, rfl, List.length_replicate, rfl, zero_bounds⟩
theorem sum_ref (g : Nat) (s : S4) (tl : List Int) (n : Nat) (all : List Int) (w : World) (h : Inv all s tl n) (hn : n < 9223372036854775808) (hg : w.heap[g]? = some (.cells (HC s tl n) 78)) :
    Calls Try.prog 56 #[.pointer (some ⟨g, 0, none⟩)] w fun e w' => e = .returned (.agg (B8 (dref all))) ∧ Below w.heap.size w w' := by
  obtain ⟨xa, xb, xc, xd⟩ := s
  have := sum_any g xa xb xc xd tl n h.hl h.hb hn w hg
  rw [fin_ref all _ tl n h (by omega)] at this
  exact this
/-- Bytes in memory, wherever. -/
def In0 (w : World) (a : Option Addr) (len cap : Nat) (bs : List Int) : Prop :=
  (len = 0 ∧ bs = []) ∨ ∃ gb off, a = some ⟨gb, off, none⟩ ∧ bs.length = len ∧ 0 < len ∧ len ≤ cap ∧ cap ≤ maxLen ∧ ∀ j, j < bs.length → w.cell? ⟨gb, off + j, none⟩ = some (.int .u8 (bs.getD j 0))
theorem In0.at {w w' : World} {a : Option Addr} {len cap : Nat} {bs : List Int} {B : Nat} (h : In0 w a len cap bs) (hB : w.heap.size ≤ B) (hb : Below w.heap.size w w') (g : Nat) (hg : B ≤ g) : In2 g w' a len cap bs := by
  rcases h with h | ⟨gb, off, h1, h2, h3, h4, h5, h7⟩
  · exact .inl h
  · have l : gb < w.heap.size := block_lt_of_cell (h7 0 (by omega))
    exact .inr ⟨gb, off, h1, h2, h3, h4, h5, by omega, fun j hj => (hb.cell (p := ⟨gb, off + j, none⟩) l).trans (h7 j hj)⟩
theorem Touch.below {g N : Nat} {w0 w w' : World} (h : Below N w0 w) (t : Touch g w w') (hN : N ≤ g) (hs : N ≤ w.heap.size) : Below N w0 w' :=
  h.trans ⟨t.os, t.tape, t.output, t.size, fun k hk => t.block k (by omega) (by omega)⟩
set_option maxHeartbeats 1000000 in
theorem of_any (a : Option Addr) (len cap : Nat) (bs : List Int) (w : World) (hin : In0 w a len cap bs) (hlen : len = bs.length) (hb : ∀ x ∈ bs, 0 ≤ x ∧ x < 256) (hmax : len < 9223372036854775808) :
    Calls Try.prog 34 #[.slice a len cap] w fun e w' => e = .returned (.agg (B8 (dref bs))) ∧ Below w.heap.size w w' := by
  have HIN := Hid.mk hin
  have HB := Hid.mk hb
  have HL := Hid.mk hlen
  clear hin hb hlen
  go_enter Try.func34, Try.ntmps34
  go_wp2_with fail
  refine (start_any _).mono ?_
  rintro e w1 ⟨⟨xa, xb, xc, xd, rfl, H⟩, hb1⟩
  have HI : Hid ((Try.prog.info? 78).map (·.size) = some (HC ⟨xa, xb, xc, xd⟩ (List.replicate 32 0) 0).size) := by unfold Hid; rw [HC_size]; kernel_rfl
  go_wp2_with (first | refine wpList_store_row rfl 78 _ _ rfl _ (HC ⟨xa, xb, xc, xd⟩ (List.replicate 32 0) 0) rfl (by rw [HC_zero]; rfl) 78 _ (heap_alloc_new w1 _) HI.out (by rw [HC_size]; rfl) (HC_one _ _ _) ?_)
  have hN : w1.heap[w.heap.size]? = some (.cells (B8 (List.replicate 32 0)) 56) := Below.row hb1 (heap_alloc_new w _)
  have l0 := lt_of_get hN
  have hb2 : Below w.heap.size w w1 := ((Below.refl _ _).alloc (Nat.le_refl _) _).trans (hb1.mono (by simp))
  clear hb1
  refine gen_w (p := fun v => Calls _ _ _ v _) (q := fun v => OfH w.heap.size w1.heap.size w v ⟨xa, xb, xc, xd⟩ (List.replicate 32 0) 0) ⟨?_, ?_, ?_, l0⟩ ?_
  · rw [setRow_other _ _ _ _ (by omega), Below.heap_alloc _ _ _ l0]; exact hN
  · exact setRow_heap _ _ _ _ _ _ (heap_alloc_new w1 _)
  · exact Below.setRow (hb2.alloc (by omega) _) (by omega) _
  clear hN hb2
  intro v F
  have hinv : Inv [] ⟨xa, xb, xc, xd⟩ (List.replicate 32 0) 0 := by rw [H.out]; exact inv_new
  refine (write_any _ a len cap _ _ 0 [] bs v hinv (HIN.out.at (Nat.le_refl _) F.bel _ (Nat.le_of_lt l0)) (by omega) HB.out F.hg).mono ?_
  rintro e v2 ⟨rfl, ⟨s2, tl2, hinv2, hg2⟩, t2⟩
  rw [List.nil_append, Nat.zero_add] at hinv2
  rw [Nat.zero_add] at hg2
  have h02 : v2.heap[w.heap.size]? = some (.cells (B8 (List.replicate 32 0)) 56) := (t2.block _ (lt_of_get F.h0) (by omega)).trans F.h0
  have hb3 := Touch.below F.bel t2 (Nat.le_of_lt l0) (Nat.le_of_lt (lt_of_get F.h0))
  clear F t2 HI hinv
  have HV := Hid.mk (And.intro hinv2 hg2)
  have H02 := Hid.mk h02
  clear hinv2 hg2 h02 H
  go_wp2_with fail
  refine (sum_ref _ s2 tl2 len bs v2 HV.out.1 hmax HV.out.2).mono ?_
  rintro e v3 ⟨rfl, hb4⟩
  have h0 := Below.row hb4 H02.out
  have hbel := hb3.trans (hb4.mono (by have := lt_of_get H02.out; omega))
  have HI2 : Hid ((Try.prog.info? 56).map (·.size) = some (B8 (dref bs)).size) := by unfold Hid; rw [B8_size, dref_len]; kernel_rfl
  have hdl := dref_len bs
  have HH := Hid.mk h0
  clear h0 hb4 HV H02
  generalize hds : dref bs = ds at HI2 hdl ⊢
  have HD := Hid.mk hds
  clear hds
  go_wp2_with (first | refine wpList_store_row rfl 56 _ _ rfl _ (B8 ds) rfl rfl 56 _ HH.out HI2.out (by rw [B8_size, B8_size, hdl, List.length_replicate]) (B8_one _) ?_)
  refine bodyPost_ret (results_cell_row Try.results34 _ _ w.heap.size 56 (B8 ds) (0, 0) _ rfl (setRow_heap _ _ _ _ _ _ HH.out) Try.underlying56 rfl HI2.out) rfl ?_
  exact ⟨by rw [HD.out], Below.setRow hbel (Nat.le_refl _) _⟩
end Go.Proofs.Ytmofehloiiopfaa.Di

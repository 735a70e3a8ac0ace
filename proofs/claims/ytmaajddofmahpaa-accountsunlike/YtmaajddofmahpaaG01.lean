/- Bytes in memory: what is handed in, what a call makes of its own, how both stay; append, copy and the text of bytes. -/
import Derived.Test.YtmaajddofmahpaaRows
import Derived.WalkKit
import Derived.WalkSpells
import Derived.WalkLawsBesides
import Derived.BigQuiet
import Derived.Deep.QuietTactic
import Derived.Handy
import Derived.Deep.DrawnRows
import Derived.Laws.CopyOwn
import Derived.Laws.AppendOwnNone
import Derived.Deep.RegionLaw
import Derived.Deep.RegionHeld3
import Derived.Deep.DeepCutAuto
import Derived.Test.YtmaajddofmahpaaG00
namespace Go.Proofs.Ytmaajddofmahpaa
open Go.RowKit
set_option linter.unusedVariables false
theorem Hid.mk {p : Prop} (h : p) : Hid p := h
theorem lt_of_get {α : Type} {xs : Array α} {i : Nat} {x : α} (h : xs[i]? = some x) : i < xs.size := (Array.getElem?_eq_some_iff.1 h).1
theorem Below.row {W w1 : World} (hb : Below W.heap.size W w1) {g : Nat} {o : Obj} (h : W.heap[g]? = some o) : w1.heap[g]? = some o := (hb.block g (lt_of_get h)).trans h
structure Touch (g : Nat) (w w' : World) : Prop where
  os : w'.os = w.os
  tape : w'.tape = w.tape
  output : w'.output = w.output
  size : w.heap.size ≤ w'.heap.size
  block : ∀ k, k < w.heap.size → k ≠ g → w'.heap[k]? = w.heap[k]?
theorem Touch.refl (g : Nat) (w : World) : Touch g w w := ⟨rfl, rfl, rfl, Nat.le_refl _, fun _ _ _ => rfl⟩
theorem Touch.trans {g : Nat} {a b c : World} (h : Touch g a b) (k : Touch g b c) : Touch g a c :=
  ⟨k.os.trans h.os, k.tape.trans h.tape, k.output.trans h.output, Nat.le_trans h.size k.size, fun i hi hg => (k.block i (Nat.lt_of_lt_of_le hi h.size) hg).trans (h.block i hi hg)⟩
theorem Touch.of_below {g : Nat} {a b : World} (h : Below a.heap.size a b) : Touch g a b := ⟨h.os, h.tape, h.output, h.size, fun i hi _ => h.block i hi⟩
theorem Touch.setCell (g : Nat) (w : World) (o : Nat) (v : Value) : Touch g w (w.setCell ⟨g, o, none⟩ v) := ⟨rfl, rfl, rfl, by simp, fun k _ hk => heap_setCell_other _ _ _ _ hk⟩
theorem Touch.setRow (g : Nat) (w : World) (C : Array Value) : Touch g w (w.setRow g C) := ⟨rfl, rfl, rfl, by simp, fun k _ hk => setRow_other _ _ _ _ hk⟩
theorem Touch.drew (g : Nat) (w : World) : Touch g w w.drew := ⟨rfl, rfl, rfl, Nat.le_refl _, fun _ _ _ => rfl⟩
theorem Touch.below {g N : Nat} {w0 w w' : World} (h : Below N w0 w) (t : Touch g w w') (hN : N ≤ g) (hs : N ≤ w.heap.size) : Below N w0 w' :=
  h.trans ⟨t.os, t.tape, t.output, t.size, fun k hk => t.block k (by omega) (by omega)⟩
theorem B8_one2 (bs : List Int) : ∀ v ∈ bs.map (Value.int .u8), v.oneCell' = true := by
  intro v hv
  obtain ⟨x, _, rfl⟩ := List.mem_map.1 hv
  rfl
def OwnB (w : World) (base : Nat) (v : Value) (bs : List Int) : Prop := w.ownsRow base 5 1 v bs.length (bs.map (Value.int .u8))
theorem info5 : ∃ i, Try.prog.info? 5 = some i ∧ i.zero = some (.int .u8 0) ∧ i.size = 1 ∧ i.bytes = 1 := by
  have h : (Try.prog.info? 5).map (fun i => (i.zero, i.size, i.bytes)) = some (some (.int .u8 0), 1, 1) := by kernel_rfl
  cases hq : Try.prog.info? 5 with
  | none => rw [hq] at h; simp at h
  | some i => rw [hq] at h; simp at h; exact ⟨i, rfl, h.1, h.2.1, h.2.2⟩
theorem app_own {w : World} {ops : Array Oper} {rest : List Oper} {o : Oper} {a : Act} {Q : Exit → Act → World → Prop} (hgd : o.guard = none) (s x : Operand)
    (ho : o.op = .call { callee := .builtin .append, args := #[s, x], argTypes := #[29, 29] }) (base : Nat) (v : Value) (bs : List Int) (hs : a.eval s = v) (hown : OwnB w base v bs)
    (ad : Addr) (m c : Nat) (news : List Int) (hx : a.eval x = .slice (some ad) m c) (hl : news.length = m) (hnews : ∀ j u, (news.map (Value.int .u8))[j]? = some u → w.cell? (ad.add j) = some u)
    (hbytes : bs.length + m ≤ 140737488355328) (hbase : base ≤ w.heap.size)
    (h : ∀ v' w', OwnB w' base v' (bs ++ news) → w.grownBy w' v.ownBlock → (v' = .slice none 0 0 ↔ v = .slice none 0 0 ∧ m = 0) → wpList Try.prog ops Q rest (a.put o.dst v') w') : wpList Try.prog ops Q (o :: rest) a w := by
  obtain ⟨i, hi, hz, hsz, hby⟩ := info5
  refine wpList_append_own w hgd s x 29 ho base 5 i (.int .u8 0) 1 1 Try.underlying29 hi hz hsz hby rfl (by decide) v bs.length (bs.map (Value.int .u8)) hs hown ad m c (news.map (Value.int .u8)) hx (by simpa using hl) hnews (B8_one2 _) (by unfold maxLen; omega) (by omega) hbase ?_
  intro v' w' h1 h2 h3
  refine h v' w' ?_ h2 h3
  unfold OwnB
  rw [List.length_append, hl, List.map_append]
  exact h1
theorem app_none {w : World} {ops : Array Oper} {rest : List Oper} {o : Oper} {a : Act} {Q : Exit → Act → World → Prop} (hgd : o.guard = none) (s x : Operand)
    (ho : o.op = .call { callee := .builtin .append, args := #[s, x], argTypes := #[29, 29] }) (base : Nat) (v : Value) (bs : List Int) (hs : a.eval s = v) (hown : OwnB w base v bs)
    (hx : a.eval x = .slice none 0 0) (h : wpList Try.prog ops Q rest (a.put o.dst v) w) : wpList Try.prog ops Q (o :: rest) a w := by
  obtain ⟨i, hi, _, _, _⟩ := info5
  exact wpList_append_own_none hgd s x 29 ho base 5 i 1 Try.underlying29 hi v bs.length _ hs hown hx h
def InB (w : World) (a : Option Addr) (len cap : Nat) (bs : List Int) : Prop :=
  (a = none ∧ len = 0 ∧ cap = 0 ∧ bs = []) ∨ ∃ ad, a = some ad ∧ bs.length = len ∧ ∀ j u, (bs.map (Value.int .u8))[j]? = some u → w.cell? (ad.add j) = some u
theorem OwnB.slice {w : World} {base : Nat} {v : Value} {bs : List Int} (h : OwnB w base v bs) (hne : 0 < bs.length) :
    ∃ g cap, v = .slice (some ⟨g, 0, none⟩) bs.length cap ∧ base ≤ g ∧ g < w.heap.size ∧ bs.length ≤ cap ∧ cap ≤ maxLen ∧ ∀ j, j < bs.length → w.cell? ⟨g, j, none⟩ = some (.int .u8 (bs.getD j 0)) := by
  obtain ⟨_, h2⟩ := h
  rcases h2 with ⟨_, h2⟩ | ⟨g, cap, cur, hv, hg, hh, hn, hcap, hsz, ht⟩
  · omega
  · refine ⟨g, cap, hv, hg, lt_of_get hh, hn, hcap, ?_⟩
    intro j hj
    rw [cell_of_row w g j _ _ _ hh]
    have e : (cur.toList.take (bs.length * 1))[j]? = (bs.map (Value.int .u8))[j]? := by rw [ht]
    rw [List.getElem?_take_of_lt (by omega)] at e
    simp at e
    rw [e]
    simp [List.getElem?_eq_getElem hj]
theorem OwnB.alloc {w : World} {base : Nat} {v : Value} {bs : List Int} (h : OwnB w base v bs) (o : Obj) : OwnB (w.alloc o) base v bs := World.ownsRow.alloc h o
theorem OwnB.new (w : World) : OwnB (w.alloc (.cells #[] 5)) w.heap.size (.slice (some ⟨w.heap.size, 0, none⟩) 0 0) [] :=
  ⟨rfl, .inr ⟨w.heap.size, 0, #[], rfl, Nat.le_refl _, heap_alloc_new _ _, Nat.le_refl _, by unfold maxLen; omega, rfl, rfl⟩⟩
theorem OwnB.lt {w : World} {base : Nat} {v : Value} {bs : List Int} (h : OwnB w base v bs) : ∀ k, v.ownBlock = some k → base ≤ k := fun k hk => (World.ownsRow.lt h k hk).1
theorem one_new (w : World) (x : Int) : ∀ j u, ([x].map (Value.int .u8))[j]? = some u → (w.alloc (.cells #[.int .u8 x] 5)).cell? ((⟨w.heap.size, 0, none⟩ : Addr).add j) = some u := by
  intro j u h
  cases j with
  | zero =>
    simp at h
    subst h
    rw [show (⟨w.heap.size, 0, none⟩ : Addr).add 0 = ⟨w.heap.size, 0, none⟩ from rfl, cell_of_row _ _ _ _ _ _ (heap_alloc_new w _)]
    rfl
  | succ j => simp at h
theorem InB.alloc {w : World} {a : Option Addr} {len cap : Nat} {bs : List Int} (h : InB w a len cap bs) (o : Obj) : InB (w.alloc o) a len cap bs := by
  rcases h with h | ⟨ad, h1, h2, h3⟩
  · exact .inl h
  · exact .inr ⟨ad, h1, h2, fun j u hu => (World.cell?_of_block (w := w) (Below.heap_alloc w _ _ (block_lt_of_cell (h3 j u hu)))).trans (h3 j u hu)⟩
def In0 (w : World) (a : Option Addr) (len cap : Nat) (bs : List Int) : Prop :=
  (len = 0 ∧ bs = []) ∨ ∃ gb off, a = some ⟨gb, off, none⟩ ∧ bs.length = len ∧ 0 < len ∧ len ≤ cap ∧ cap ≤ maxLen ∧ ∀ j, j < bs.length → w.cell? ⟨gb, off + j, none⟩ = some (.int .u8 (bs.getD j 0))
theorem In0.mono {w w' : World} {a : Option Addr} {len cap : Nat} {bs : List Int} (h : In0 w a len cap bs) (hb : Below w.heap.size w w') : In0 w' a len cap bs := by
  rcases h with h | ⟨gb, off, h1, h2, h3, h4, h5, h7⟩
  · exact .inl h
  · exact .inr ⟨gb, off, h1, h2, h3, h4, h5, fun j hj => (hb.cell (p := ⟨gb, off + j, none⟩) (block_lt_of_cell (h7 j hj))).trans (h7 j hj)⟩
theorem addr_add (g o j : Nat) : (⟨g, o, none⟩ : Addr).add j = ⟨g, o + j, none⟩ := by unfold Addr.add; split <;> simp_all
theorem In0.inB {w : World} {a : Option Addr} {len cap : Nat} {bs : List Int} (h : In0 w a len cap bs) (hnil : a = none → len = 0 ∧ cap = 0) : InB w a len cap bs := by
  rcases h with ⟨h1, h2⟩ | ⟨gb, off, h1, h2, h3, h4, h5, h7⟩
  · cases a with
    | none => exact .inl ⟨rfl, h1, (hnil rfl).2, h2⟩
    | some ad => exact .inr ⟨ad, rfl, by rw [h2, h1]; rfl, fun j u hu => by rw [h2] at hu; simp at hu⟩
  · refine .inr ⟨_, h1, h2, fun j u hu => ?_⟩
    have hj : j < bs.length := by have := (List.getElem?_eq_some_iff.1 hu).1; simpa using this
    rw [addr_add, h7 j hj, ← hu]
    simp [List.getElem?_eq_getElem hj]
theorem conv_any {w : World} {a : Option Addr} {len cap : Nat} {bs : List Int} (h : In0 w a len cap bs) : (convert 29 9 (.slice a len cap)).run Try.prog w = .ok (.string (strOfNums bs)) w := by
  rcases h with ⟨rfl, rfl⟩ | ⟨gb, off, rfl, h2, h3, h4, h5, h7⟩
  · cases a with
    | none => exact run_convert_bytes_nil w 29 5 Try.underlying29 Try.underlying5 0 cap 9 Try.underlying9
    | some ad =>
      rw [run_convert_bytes_string w 29 9 5 _ 0 cap Try.underlying29 Try.underlying5 Try.underlying9, run_bytesToString w ad 0 cap [] (by have := run_loadCells_list (P := Try.prog) w ad [] (fun j v hv => by simp at hv); simpa using this)]
      rfl
  · exact run_convert_bytes_arg w 29 5 Try.underlying29 Try.underlying5 gb off len cap bs h2 (fun i hi => h7 i (by omega)) 9 Try.underlying9
theorem wpl_copy {w : World} {ops : Array Oper} {rest : List Oper} {o : Oper} {a : Act} {Q : Exit → Act → World → Prop} (hgd : o.guard = none) (d x : Operand)
    (ho : o.op = .call { callee := .builtin .copy, args := #[d, x], argTypes := #[29, 29] }) (v u : Value) (hd : a.eval d = v) (hx : a.eval x = u) {v' : Value} {w' : World}
    (hr : (Builtin.copy_ #[29, 29] o.type #[v, u]).run Try.prog w = .ok v' w') (h : wpList Try.prog ops Q rest (a.put o.dst v') w') : wpList Try.prog ops Q (o :: rest) a w := by
  refine wpList_plain hgd fun K hK => ?_
  unfold Oper.wp
  simp [execOp, ho, resolve, invoke, builtin, hd, hx, hr, Result.andThen]
  exact hK _ _ h
structure Ag (w0 : World) (a : Option Addr) (len cap : Nat) (bs : List Int) : Prop where
  i : In0 w0 a len cap bs
  nil : a = none → len = 0 ∧ cap = 0
  l : bs.length = len
  b : ∀ x ∈ bs, 0 ≤ x ∧ x < 256
theorem Ag.at {w0 w : World} {a : Option Addr} {len cap : Nat} {bs : List Int} (h : Ag w0 a len cap bs) (hb : Below w0.heap.size w0 w) : Ag w a len cap bs := ⟨h.i.mono hb, h.nil, h.l, h.b⟩
theorem mem_app {xs ys : List Int} (h1 : ∀ x ∈ xs, 0 ≤ x ∧ x < 256) (h2 : ∀ x ∈ ys, 0 ≤ x ∧ x < 256) : ∀ x ∈ xs ++ ys, 0 ≤ x ∧ x < 256 := by
  intro x hx
  rcases List.mem_append.1 hx with hx | hx
  · exact h1 x hx
  · exact h2 x hx
end Go.Proofs.Ytmaajddofmahpaa
/- Items in memory; what bare, weightOf and sizeOf answer. -/
namespace Go.Proofs.Ytmaajddofmahpaa
open Go.RowKit
set_option linter.unusedVariables false
/-- The value of an item: its mark, its bytes, its things. -/
structure V where
  l : Bool
  ba : Option Addr
  bn : Nat
  bc : Nat
  ia : Option Addr
  m : Nat
  ic : Nat
def V.v (x : V) : Value := .agg #[.bool x.l, .slice x.ba x.bn x.bc, .slice x.ia x.m x.ic]
mutual
/-- An item lies in memory. -/
def Lies (w : World) : T → V → Prop
  | .mk l bs its, x => x.l = l ∧ Ag w x.ba x.bn x.bc bs ∧ x.m = its.length ∧ x.m ≤ x.ic ∧ x.ic ≤ maxLen ∧ (x.bn ≤ 140737488351232 ∧ x.m ≤ 140737488351232) ∧ LiesAll w its x.ia 0
def LiesAll (w : World) : List T → Option Addr → Nat → Prop
  | [], _, _ => True
  | t :: r, a, k => (∃ g off y, a = some ⟨g, off, none⟩ ∧ w.cell? ⟨g, off + k * 3, none⟩ = some (.bool y.l) ∧ w.cell? ⟨g, off + k * 3 + 1, none⟩ = some (.slice y.ba y.bn y.bc) ∧ w.cell? ⟨g, off + k * 3 + 2, none⟩ = some (.slice y.ia y.m y.ic) ∧ Lies w t y) ∧ LiesAll w r a (k + 1)
end
theorem lies_eq {w : World} {l : Bool} {bs : List Int} {its : List T} {x : V} : Lies w (.mk l bs its) x ↔ (x.l = l ∧ Ag w x.ba x.bn x.bc bs ∧ x.m = its.length ∧ x.m ≤ x.ic ∧ x.ic ≤ maxLen ∧ (x.bn ≤ 140737488351232 ∧ x.m ≤ 140737488351232) ∧ LiesAll w its x.ia 0) := by rw [Lies]
theorem liesAll_cons {w : World} {t : T} {r : List T} {a : Option Addr} {k : Nat} : LiesAll w (t :: r) a k ↔ ((∃ g off y, a = some ⟨g, off, none⟩ ∧ w.cell? ⟨g, off + k * 3, none⟩ = some (.bool y.l) ∧ w.cell? ⟨g, off + k * 3 + 1, none⟩ = some (.slice y.ba y.bn y.bc) ∧ w.cell? ⟨g, off + k * 3 + 2, none⟩ = some (.slice y.ia y.m y.ic) ∧ Lies w t y) ∧ LiesAll w r a (k + 1)) := by rw [LiesAll]
theorem liesAll_nil {w : World} {a : Option Addr} {k : Nat} : LiesAll w [] a k := by rw [LiesAll]; trivial
/-- One thing of a list that lies in memory. -/
structure At (w : World) (a : Option Addr) (k : Nat) (t : T) (g off : Nat) (y : V) : Prop where
  ha : a = some ⟨g, off, none⟩
  c0 : w.cell? ⟨g, off + k * 3, none⟩ = some (.bool y.l)
  c1 : w.cell? ⟨g, off + k * 3 + 1, none⟩ = some (.slice y.ba y.bn y.bc)
  c2 : w.cell? ⟨g, off + k * 3 + 2, none⟩ = some (.slice y.ia y.m y.ic)
  li : Lies w t y
theorem liesAll_at {w : World} {a : Option Addr} : ∀ {its : List T} {k : Nat}, LiesAll w its a k → ∀ i, ∀ t, its[i]? = some t → ∃ g off y, At w a (k + i) t g off y
  | [], k, _, i, t, h => by simp at h
  | t :: r, k, hl, i, u, h => by
    obtain ⟨⟨g, off, y, h1, h2, h3, h4, h5⟩, hr⟩ := liesAll_cons.1 hl
    cases i with
    | zero =>
      simp at h
      subst h
      exact ⟨g, off, y, h1, h2, h3, h4, h5⟩
    | succ i =>
      simp at h
      obtain ⟨g', off', y', h'⟩ := liesAll_at hr i u h
      rw [show k + 1 + i = k + (i + 1) from by omega] at h'
      exact ⟨g', off', y', h'⟩
theorem lies_mono {w w' : World} (hb : Below w.heap.size w w') : ∀ t, ∀ x, Lies w t x → Lies w' t x := by
  refine T.ind fun l bs its ih x h => ?_
  obtain ⟨h1, h2, h3, h4, h5, h7, h6⟩ := lies_eq.1 h
  refine lies_eq.2 ⟨h1, h2.at hb, h3, h4, h5, h7, ?_⟩
  clear h1 h2 h3 h4 h5 h7 h
  generalize x.ia = a at h6
  generalize 0 = k at h6
  induction its generalizing k with
  | nil => exact liesAll_nil
  | cons t r ihr =>
    obtain ⟨⟨g, off, y, h1, h2, h3, h4, h5⟩, hr⟩ := liesAll_cons.1 h6
    refine liesAll_cons.2 ⟨⟨g, off, y, h1, ?_, ?_, ?_, ih t (List.mem_cons_self ..) y h5⟩, ihr (fun u hu => ih u (List.mem_cons_of_mem _ hu)) _ hr⟩
    · exact (hb.cell (p := ⟨g, off + k * 3, none⟩) (block_lt_of_cell h2)).trans h2
    · exact (hb.cell (p := ⟨g, off + k * 3 + 1, none⟩) (block_lt_of_cell h3)).trans h3
    · exact (hb.cell (p := ⟨g, off + k * 3 + 2, none⟩) (block_lt_of_cell h4)).trans h4
theorem lies_byt {w : World} : ∀ t, ∀ x, Lies w t x → byt t := by
  refine T.ind fun l bs its ih x h => ?_
  obtain ⟨h1, h2, h3, h4, h5, h7, h6⟩ := lies_eq.1 h
  refine (byt_eq l bs its).2 ⟨h2.b, ?_⟩
  clear h1 h2 h3 h4 h5 h7 h
  generalize x.ia = a at h6
  generalize 0 = k at h6
  induction its generalizing k with
  | nil => rw [byts]; trivial
  | cons t r ihr =>
    obtain ⟨⟨g, off, y, h1, h2, h3, h4, h5⟩, hr⟩ := liesAll_cons.1 h6
    exact (byts_cons t r).2 ⟨ih t (List.mem_cons_self ..) y h5, ihr (fun u hu => ih u (List.mem_cons_of_mem _ hu)) _ hr⟩
theorem ag_head {w : World} {a : Option Addr} {n c : Nat} {bs : List Int} (h : Ag w a n c bs) (h1 : 0 < n) : ∃ g off, a = some ⟨g, off, none⟩ ∧ n ≤ c ∧ c ≤ maxLen ∧ ∀ j, j < n → w.cell? ⟨g, off + j, none⟩ = some (.int .u8 (bs.getD j 0)) := by
  rcases h.i with ⟨h0, _⟩ | ⟨g, off, h2, h3, h4, h5, h6, h7⟩
  · omega
  · exact ⟨g, off, h2, h5, h6, fun j hj => h7 j (by omega)⟩
theorem cell_alloc {w : World} {g off : Nat} {v : Value} (h : w.cell? ⟨g, off, none⟩ = some v) : ∀ o, (w.alloc o).cell? ⟨g, off, none⟩ = some v := fun o => (World.cell?_of_block (w := w) (Below.heap_alloc w _ _ (block_lt_of_cell h))).trans h
set_option maxHeartbeats 400000 in
theorem bare_any (l : Bool) (ba : Option Addr) (bn bc : Nat) (ia : Option Addr) (m ic : Nat) (bs : List Int) (w : World) (h : Ag w ba bn bc bs) :
    Calls Try.prog 54 #[.agg #[.bool l, .slice ba bn bc, .slice ia m ic]] w fun e w' => e = .returned (.bool (bare l bs)) ∧ Below w.heap.size w w' := by
  cases l with
  | true =>
    go_enter Try.func54, Try.ntmps54
    go_wp2_with fail
    go_ret
    exact ⟨by simp [bare], (Below.refl _ _).alloc (Nat.le_refl _) _⟩
  | false =>
    by_cases h1 : bn = 1
    · subst h1
      obtain ⟨g, off, rfl, hc1, hc2, hc⟩ := ag_head h (by omega)
      have hc := hc 0 (by omega)
      have hl := h.l
      match bs, hl with
      | [x], _ =>
        simp at hc
        have hx := h.b x (by simp)
        have hc2 := cell_alloc hc
        clear h
        go_enter Try.func54, Try.ntmps54
        go_wp2_with fail
        go_ret
        exact ⟨by simp [bare], (Below.refl _ _).alloc (Nat.le_refl _) _⟩
    · have hl := h.l
      have hb : (bn == 1) = false := by simp [h1]
      have hbi : ((bn : Int) == 1) = false := by simp; omega
      clear h
      go_enter Try.func54, Try.ntmps54
      go_wp2_with fail
      go_ret
      exact ⟨by simp [bare, hl, h1], (Below.refl _ _).alloc (Nat.le_refl _) _⟩
end Go.Proofs.Ytmaajddofmahpaa

/- Bytes in memory: what is handed in, what a call makes of its own, how both stay; append, copy and the text of bytes. -/
import Derived.Test.YtjpcfdhkgfaeeaaRows
import Derived.WalkKit
import Derived.WalkSpells
import Derived.WalkLawsBesides
import Derived.BigQuiet
import Derived.Deep.QuietTactic
import Derived.Handy
import Derived.Deep.DrawnRows
import Derived.Laws.CopyOwn
import Derived.Laws.AppendOwnNone
import Derived.Deep.RegionLaw
import Derived.Deep.RegionHeld3
import Derived.Deep.DeepCutAuto
namespace Go.Proofs.Ytjpcfdhkgfaeeaa
open Go.RowKit
set_option linter.unusedVariables false
theorem Hid.mk {p : Prop} (h : p) : Hid p := h
theorem lt_of_get {α : Type} {xs : Array α} {i : Nat} {x : α} (h : xs[i]? = some x) : i < xs.size := (Array.getElem?_eq_some_iff.1 h).1
theorem Below.row {W w1 : World} (hb : Below W.heap.size W w1) {g : Nat} {o : Obj} (h : W.heap[g]? = some o) : w1.heap[g]? = some o := (hb.block g (lt_of_get h)).trans h
structure Touch (g : Nat) (w w' : World) : Prop where
  os : w'.os = w.os
  tape : w'.tape = w.tape
  output : w'.output = w.output
  size : w.heap.size ≤ w'.heap.size
  block : ∀ k, k < w.heap.size → k ≠ g → w'.heap[k]? = w.heap[k]?
theorem Touch.refl (g : Nat) (w : World) : Touch g w w := ⟨rfl, rfl, rfl, Nat.le_refl _, fun _ _ _ => rfl⟩
theorem Touch.trans {g : Nat} {a b c : World} (h : Touch g a b) (k : Touch g b c) : Touch g a c :=
  ⟨k.os.trans h.os, k.tape.trans h.tape, k.output.trans h.output, Nat.le_trans h.size k.size, fun i hi hg => (k.block i (Nat.lt_of_lt_of_le hi h.size) hg).trans (h.block i hi hg)⟩
theorem Touch.of_below {g : Nat} {a b : World} (h : Below a.heap.size a b) : Touch g a b := ⟨h.os, h.tape, h.output, h.size, fun i hi _ => h.block i hi⟩
theorem Touch.setCell (g : Nat) (w : World) (o : Nat) (v : Value) : Touch g w (w.setCell ⟨g, o, none⟩ v) := ⟨rfl, rfl, rfl, by simp, fun k _ hk => heap_setCell_other _ _ _ _ hk⟩
theorem Touch.setRow (g : Nat) (w : World) (C : Array Value) : Touch g w (w.setRow g C) := ⟨rfl, rfl, rfl, by simp, fun k _ hk => setRow_other _ _ _ _ hk⟩
theorem Touch.drew (g : Nat) (w : World) : Touch g w w.drew := ⟨rfl, rfl, rfl, Nat.le_refl _, fun _ _ _ => rfl⟩
theorem Touch.below {g N : Nat} {w0 w w' : World} (h : Below N w0 w) (t : Touch g w w') (hN : N ≤ g) (hs : N ≤ w.heap.size) : Below N w0 w' :=
  h.trans ⟨t.os, t.tape, t.output, t.size, fun k hk => t.block k (by omega) (by omega)⟩
theorem B8_one2 (bs : List Int) : ∀ v ∈ bs.map (Value.int .u8), v.oneCell' = true := by
  intro v hv
  obtain ⟨x, _, rfl⟩ := List.mem_map.1 hv
  rfl
def OwnB (w : World) (base : Nat) (v : Value) (bs : List Int) : Prop := w.ownsRow base 5 1 v bs.length (bs.map (Value.int .u8))
theorem info5 : ∃ i, Try.prog.info? 5 = some i ∧ i.zero = some (.int .u8 0) ∧ i.size = 1 ∧ i.bytes = 1 := by
  have h : (Try.prog.info? 5).map (fun i => (i.zero, i.size, i.bytes)) = some (some (.int .u8 0), 1, 1) := by kernel_rfl
  cases hq : Try.prog.info? 5 with
  | none => rw [hq] at h; simp at h
  | some i => rw [hq] at h; simp at h; exact ⟨i, rfl, h.1, h.2.1, h.2.2⟩
theorem app_own {w : World} {ops : Array Oper} {rest : List Oper} {o : Oper} {a : Act} {Q : Exit → Act → World → Prop} (hgd : o.guard = none) (s x : Operand)
    (ho : o.op = .call { callee := .builtin .append, args := #[s, x], argTypes := #[54, 54] }) (base : Nat) (v : Value) (bs : List Int) (hs : a.eval s = v) (hown : OwnB w base v bs)
    (ad : Addr) (m c : Nat) (news : List Int) (hx : a.eval x = .slice (some ad) m c) (hl : news.length = m) (hnews : ∀ j u, (news.map (Value.int .u8))[j]? = some u → w.cell? (ad.add j) = some u)
    (hbytes : bs.length + m ≤ 140737488355328) (hbase : base ≤ w.heap.size)
    (h : ∀ v' w', OwnB w' base v' (bs ++ news) → w.grownBy w' v.ownBlock → (v' = .slice none 0 0 ↔ v = .slice none 0 0 ∧ m = 0) → wpList Try.prog ops Q rest (a.put o.dst v') w') : wpList Try.prog ops Q (o :: rest) a w := by
  obtain ⟨i, hi, hz, hsz, hby⟩ := info5
  refine wpList_append_own w hgd s x 54 ho base 5 i (.int .u8 0) 1 1 Try.underlying54 hi hz hsz hby rfl (by decide) v bs.length (bs.map (Value.int .u8)) hs hown ad m c (news.map (Value.int .u8)) hx (by simpa using hl) hnews (B8_one2 _) (by unfold maxLen; omega) (by omega) hbase ?_
  intro v' w' h1 h2 h3
  refine h v' w' ?_ h2 h3
  unfold OwnB
  rw [List.length_append, hl, List.map_append]
  exact h1
theorem app_none {w : World} {ops : Array Oper} {rest : List Oper} {o : Oper} {a : Act} {Q : Exit → Act → World → Prop} (hgd : o.guard = none) (s x : Operand)
    (ho : o.op = .call { callee := .builtin .append, args := #[s, x], argTypes := #[54, 54] }) (base : Nat) (v : Value) (bs : List Int) (hs : a.eval s = v) (hown : OwnB w base v bs)
    (hx : a.eval x = .slice none 0 0) (h : wpList Try.prog ops Q rest (a.put o.dst v) w) : wpList Try.prog ops Q (o :: rest) a w := by
  obtain ⟨i, hi, _, _, _⟩ := info5
  exact wpList_append_own_none hgd s x 54 ho base 5 i 1 Try.underlying54 hi v bs.length _ hs hown hx h
def InB (w : World) (a : Option Addr) (len cap : Nat) (bs : List Int) : Prop :=
  (a = none ∧ len = 0 ∧ cap = 0 ∧ bs = []) ∨ ∃ ad, a = some ad ∧ bs.length = len ∧ ∀ j u, (bs.map (Value.int .u8))[j]? = some u → w.cell? (ad.add j) = some u
theorem OwnB.slice {w : World} {base : Nat} {v : Value} {bs : List Int} (h : OwnB w base v bs) (hne : 0 < bs.length) :
    ∃ g cap, v = .slice (some ⟨g, 0, none⟩) bs.length cap ∧ base ≤ g ∧ g < w.heap.size ∧ bs.length ≤ cap ∧ cap ≤ maxLen ∧ ∀ j, j < bs.length → w.cell? ⟨g, j, none⟩ = some (.int .u8 (bs.getD j 0)) := by
  obtain ⟨_, h2⟩ := h
  rcases h2 with ⟨_, h2⟩ | ⟨g, cap, cur, hv, hg, hh, hn, hcap, hsz, ht⟩
  · omega
  · refine ⟨g, cap, hv, hg, lt_of_get hh, hn, hcap, ?_⟩
    intro j hj
    rw [cell_of_row w g j _ _ _ hh]
    have e : (cur.toList.take (bs.length * 1))[j]? = (bs.map (Value.int .u8))[j]? := by rw [ht]
    rw [List.getElem?_take_of_lt (by omega)] at e
    simp at e
    rw [e]
    simp [List.getElem?_eq_getElem hj]
theorem OwnB.alloc {w : World} {base : Nat} {v : Value} {bs : List Int} (h : OwnB w base v bs) (o : Obj) : OwnB (w.alloc o) base v bs := World.ownsRow.alloc h o
theorem OwnB.new (w : World) : OwnB (w.alloc (.cells #[] 5)) w.heap.size (.slice (some ⟨w.heap.size, 0, none⟩) 0 0) [] :=
  ⟨rfl, .inr ⟨w.heap.size, 0, #[], rfl, Nat.le_refl _, heap_alloc_new _ _, Nat.le_refl _, by unfold maxLen; omega, rfl, rfl⟩⟩
theorem OwnB.lt {w : World} {base : Nat} {v : Value} {bs : List Int} (h : OwnB w base v bs) : ∀ k, v.ownBlock = some k → base ≤ k := fun k hk => (World.ownsRow.lt h k hk).1
theorem one_new (w : World) (x : Int) : ∀ j u, ([x].map (Value.int .u8))[j]? = some u → (w.alloc (.cells #[.int .u8 x] 5)).cell? ((⟨w.heap.size, 0, none⟩ : Addr).add j) = some u := by
  intro j u h
  cases j with
  | zero =>
    simp at h
    subst h
    rw [show (⟨w.heap.size, 0, none⟩ : Addr).add 0 = ⟨w.heap.size, 0, none⟩ from rfl, cell_of_row _ _ _ _ _ _ (heap_alloc_new w _)]
    rfl
  | succ j => simp at h
theorem InB.alloc {w : World} {a : Option Addr} {len cap : Nat} {bs : List Int} (h : InB w a len cap bs) (o : Obj) : InB (w.alloc o) a len cap bs := by
  rcases h with h | ⟨ad, h1, h2, h3⟩
  · exact .inl h
  · exact .inr ⟨ad, h1, h2, fun j u hu => (World.cell?_of_block (w := w) (Below.heap_alloc w _ _ (block_lt_of_cell (h3 j u hu)))).trans (h3 j u hu)⟩
def In0 (w : World) (a : Option Addr) (len cap : Nat) (bs : List Int) : Prop :=
  (len = 0 ∧ bs = []) ∨ ∃ gb off, a = some ⟨gb, off, none⟩ ∧ bs.length = len ∧ 0 < len ∧ len ≤ cap ∧ cap ≤ maxLen ∧ ∀ j, j < bs.length → w.cell? ⟨gb, off + j, none⟩ = some (.int .u8 (bs.getD j 0))
theorem In0.mono {w w' : World} {a : Option Addr} {len cap : Nat} {bs : List Int} (h : In0 w a len cap bs) (hb : Below w.heap.size w w') : In0 w' a len cap bs := by
  rcases h with h | ⟨gb, off, h1, h2, h3, h4, h5, h7⟩
  · exact .inl h
  · exact .inr ⟨gb, off, h1, h2, h3, h4, h5, fun j hj => (hb.cell (p := ⟨gb, off + j, none⟩) (block_lt_of_cell (h7 j hj))).trans (h7 j hj)⟩
theorem In0.drew {w : World} {a : Option Addr} {len cap : Nat} {bs : List Int} (h : In0 w a len cap bs) : In0 w.drew a len cap bs := by
  rcases h with h | ⟨gb, off, h1, h2, h3, h4, h5, h7⟩
  · exact .inl h
  · exact .inr ⟨gb, off, h1, h2, h3, h4, h5, h7⟩
theorem addr_add (g o j : Nat) : (⟨g, o, none⟩ : Addr).add j = ⟨g, o + j, none⟩ := by unfold Addr.add; split <;> simp_all
theorem In0.inB {w : World} {a : Option Addr} {len cap : Nat} {bs : List Int} (h : In0 w a len cap bs) (hnil : a = none → len = 0 ∧ cap = 0) : InB w a len cap bs := by
  rcases h with ⟨h1, h2⟩ | ⟨gb, off, h1, h2, h3, h4, h5, h7⟩
  · cases a with
    | none => exact .inl ⟨rfl, h1, (hnil rfl).2, h2⟩
    | some ad => exact .inr ⟨ad, rfl, by rw [h2, h1]; rfl, fun j u hu => by rw [h2] at hu; simp at hu⟩
  · refine .inr ⟨_, h1, h2, fun j u hu => ?_⟩
    have hj : j < bs.length := by have := (List.getElem?_eq_some_iff.1 hu).1; simpa using this
    rw [addr_add, h7 j hj, ← hu]
    simp [List.getElem?_eq_getElem hj]
theorem OwnB.in0 {w : World} {base : Nat} {v : Value} {bs : List Int} (h : OwnB w base v bs) : ∃ a cap, v = .slice a bs.length cap ∧ In0 w a bs.length cap bs ∧ (a = none → bs.length = 0 ∧ cap = 0) := by
  by_cases hp : 0 < bs.length
  · obtain ⟨g, cap, hv, h1, h2, h3, h4, h5⟩ := h.slice hp
    exact ⟨_, cap, hv, .inr ⟨g, 0, rfl, rfl, hp, h3, h4, fun j hj => by rw [Nat.zero_add]; exact h5 j hj⟩, fun hh => by cases hh⟩
  · have h0 : bs.length = 0 := by omega
    have hb0 : bs = [] := List.eq_nil_of_length_eq_zero h0
    obtain ⟨_, h2⟩ := h
    rcases h2 with ⟨hv, _⟩ | ⟨g, cap, cur, hv, _⟩
    · exact ⟨none, 0, by rw [hv, h0], .inl ⟨h0, hb0⟩, fun _ => ⟨h0, rfl⟩⟩
    · exact ⟨some ⟨g, 0, none⟩, cap, hv, .inl ⟨h0, hb0⟩, fun hh => by cases hh⟩
theorem conv_any {w : World} {a : Option Addr} {len cap : Nat} {bs : List Int} (h : In0 w a len cap bs) : (convert 54 9 (.slice a len cap)).run Try.prog w = .ok (.string (strOfNums bs)) w := by
  rcases h with ⟨rfl, rfl⟩ | ⟨gb, off, rfl, h2, h3, h4, h5, h7⟩
  · cases a with
    | none => exact run_convert_bytes_nil w 54 5 Try.underlying54 Try.underlying5 0 cap 9 Try.underlying9
    | some ad =>
      rw [run_convert_bytes_string w 54 9 5 _ 0 cap Try.underlying54 Try.underlying5 Try.underlying9, run_bytesToString w ad 0 cap [] (by have := run_loadCells_list (P := Try.prog) w ad [] (fun j v hv => by simp at hv); simpa using this)]
      rfl
  · exact run_convert_bytes_arg w 54 5 Try.underlying54 Try.underlying5 gb off len cap bs h2 (fun i hi => h7 i (by omega)) 9 Try.underlying9
theorem wpl_copy {w : World} {ops : Array Oper} {rest : List Oper} {o : Oper} {a : Act} {Q : Exit → Act → World → Prop} (hgd : o.guard = none) (d x : Operand)
    (ho : o.op = .call { callee := .builtin .copy, args := #[d, x], argTypes := #[54, 54] }) (v u : Value) (hd : a.eval d = v) (hx : a.eval x = u) {v' : Value} {w' : World}
    (hr : (Builtin.copy_ #[54, 54] o.type #[v, u]).run Try.prog w = .ok v' w') (h : wpList Try.prog ops Q rest (a.put o.dst v') w') : wpList Try.prog ops Q (o :: rest) a w := by
  refine wpList_plain hgd fun K hK => ?_
  unfold Oper.wp
  simp [execOp, ho, resolve, invoke, builtin, hd, hx, hr, Result.andThen]
  exact hK _ _ h
theorem app_any {w : World} {ops : Array Oper} {rest : List Oper} {o : Oper} {a : Act} {Q : Exit → Act → World → Prop} (hgd : o.guard = none) (s x : Operand)
    (ho : o.op = .call { callee := .builtin .append, args := #[s, x], argTypes := #[54, 54] }) (base : Nat) (v : Value) (bs : List Int) (hs : a.eval s = v) (hown : OwnB w base v bs)
    (ad : Option Addr) (m c : Nat) (news : List Int) (hx : a.eval x = .slice ad m c) (hin : In0 w ad m c news) (hnil : ad = none → m = 0 ∧ c = 0) (hl : news.length = m)
    (hbytes : bs.length + m ≤ 140737488355328) (hbase : base ≤ w.heap.size)
    (h : ∀ v' w', OwnB w' base v' (bs ++ news) → Below base w w' → wpList Try.prog ops Q rest (a.put o.dst v') w') : wpList Try.prog ops Q (o :: rest) a w := by
  cases ad with
  | none =>
    obtain ⟨rfl, rfl⟩ := hnil rfl
    have hn0 : news = [] := List.eq_nil_of_length_eq_zero hl
    subst hn0
    refine app_none hgd s x ho base v bs hs hown hx ?_
    exact h v w (by rw [List.append_nil]; exact hown) (Below.refl _ _)
  | some ad =>
    have hB := hin.inB hnil
    have hc : ∀ j u, (news.map (Value.int .u8))[j]? = some u → w.cell? (ad.add j) = some u := by
      rcases hB with ⟨h, _⟩ | ⟨ad', h1, _, h3⟩
      · cases h
      · cases h1; exact h3
    refine app_own hgd s x ho base v bs hs hown ad m c news hx hl hc hbytes hbase ?_
    intro v' w' o' g' _
    exact h v' w' o' ((Below.refl _ _).grown g' hbase hown.lt)
structure Ag (w0 : World) (a : Option Addr) (len cap : Nat) (bs : List Int) : Prop where
  i : In0 w0 a len cap bs
  nil : a = none → len = 0 ∧ cap = 0
  l : bs.length = len
  b : ∀ x ∈ bs, 0 ≤ x ∧ x < 256
theorem Ag.at {w0 w : World} {a : Option Addr} {len cap : Nat} {bs : List Int} (h : Ag w0 a len cap bs) (hb : Below w0.heap.size w0 w) : Ag w a len cap bs := ⟨h.i.mono hb, h.nil, h.l, h.b⟩
theorem OwnB.ag {w : World} {base : Nat} {v : Value} {bs : List Int} (h : OwnB w base v bs) (hb : ∀ x ∈ bs, 0 ≤ x ∧ x < 256) : ∃ a cap, v = .slice a bs.length cap ∧ Ag w a bs.length cap bs := by
  obtain ⟨a, cap, hv, h1, h2⟩ := h.in0
  exact ⟨a, cap, hv, h1, h2, rfl, hb⟩
theorem mem_app {xs ys : List Int} (h1 : ∀ x ∈ xs, 0 ≤ x ∧ x < 256) (h2 : ∀ x ∈ ys, 0 ≤ x ∧ x < 256) : ∀ x ∈ xs ++ ys, 0 ≤ x ∧ x < 256 := by
  intro x hx
  rcases List.mem_append.1 hx with hx | hx
  · exact h1 x hx
  · exact h2 x hx
theorem OwnB.far {w w' : World} {base : Nat} {v : Value} {bs : List Int} (h : OwnB w base v bs) (hf : ∀ i, base ≤ i → i < w.heap.size → w'.heap[i]? = w.heap[i]?) : OwnB w' base v bs := by
  refine ⟨h.1, ?_⟩
  rcases h.2 with h2 | ⟨k, cap, cur, hv, hb, hh, r⟩
  · exact .inl h2
  · exact .inr ⟨k, cap, cur, hv, hb, (hf k hb (lt_of_get hh)).trans hh, r⟩
theorem OwnB.below {w w' : World} {base : Nat} {v : Value} {bs : List Int} (h : OwnB w base v bs) (hb : Below w.heap.size w w') : OwnB w' base v bs := by
  refine ⟨h.1, ?_⟩
  rcases h.2 with h2 | ⟨k, cap, cur, hv, hb', hh, r⟩
  · exact .inl h2
  · exact .inr ⟨k, cap, cur, hv, hb', Below.row hb hh, r⟩
theorem OwnB.touch {w w' : World} {base : Nat} {v : Value} {bs : List Int} {g : Nat} (h : OwnB w base v bs) (t : Touch g w w') (hg : g < base) : OwnB w' base v bs := by
  refine ⟨h.1, ?_⟩
  rcases h.2 with h2 | ⟨k, cap, cur, hv, hb, hh, r⟩
  · exact .inl h2
  · exact .inr ⟨k, cap, cur, hv, hb, (t.block k (lt_of_get hh) (by omega)).trans hh, r⟩
end Go.Proofs.Ytjpcfdhkgfaeeaa
/- What one round, the xor of four words, and the eight rounds of package digest (functions round, xor, stir) answer, for every input; and the plain functions that say it. -/
namespace Go.Proofs.Ytjpcfdhkgfaeeaa.Di
set_option maxRecDepth 100000
open Go.RowKit
/-- Four words. -/
structure S4 where
  a : Int
  b : Int
  c : Int
  d : Int
def wr (x : Int) : Int := IntKind.u64.wrap x
def rotl (x k : Int) : Int := bits BinOp.or IntKind.u64 (IntKind.u64.wrap (x * 2 ^ k.toNat)) (x / 2 ^ (64 - k).toNat)
def xr (x y : Int) : Int := bits BinOp.xor IntKind.u64 x y
def rnd (s : S4) (x : Int) : S4 :=
  let a := wr (s.a + wr (s.b + x))
  let d := rotl (xr s.d a) 32
  let c := wr (s.c + d)
  let b := rotl (xr s.b c) 24
  let a := wr (a + b)
  let d := rotl (xr d a) 16
  let c := wr (c + d)
  let b := rotl (xr b c) 63
  ⟨b, c, d, a⟩
def xor4 (s m : S4) : S4 := ⟨xr s.a m.a, xr s.b m.b, xr s.c m.c, xr s.d m.d⟩
def kk : Int := 11400714819323198485
def stir (s m : S4) : S4 :=
  let s := rnd s (wr (m.a + wr (1 * kk)))
  let s := rnd s (wr (m.b + wr (2 * kk)))
  let s := rnd s (wr (m.c + wr (3 * kk)))
  let s := rnd s (wr (m.d + wr (4 * kk)))
  let s := rnd s (wr (m.a + wr (5 * kk)))
  let s := rnd s (wr (m.b + wr (6 * kk)))
  let s := rnd s (wr (m.c + wr (7 * kk)))
  rnd s (wr (m.d + wr (8 * kk)))
def mix (s m : S4) : S4 := xor4 (stir (xor4 s m) m) s
theorem b32 : bits BinOp.and IntKind.u64 32 63 = 32 := by decide
theorem b24 : bits BinOp.and IntKind.u64 24 63 = 24 := by decide
theorem b16 : bits BinOp.and IntKind.u64 16 63 = 16 := by decide
theorem b63 : bits BinOp.and IntKind.u64 63 63 = 63 := by decide
set_option maxHeartbeats 400000 in
theorem rotc (x : Int) (w : World) (k : Int) (hk0 : 0 ≤ k) (hk1 : k < 64) (hkk : bits BinOp.and IntKind.u64 k 63 = k) :
    Calls Try.prog 69 #[.int .u64 x, .int .i64 k] w fun e w' => e = .returned (.int .u64 (rotl x k)) ∧ w' = w := by
  go_enter Try.func69, Try.ntmps69
  go_wp2
  go_ret
  exact ⟨rfl, rfl⟩

set_option maxHeartbeats 400000 in
theorem round_any (a b c d x : Int) (w : World) :
    Calls Try.prog 67 #[.agg #[.int .u64 a, .int .u64 b, .int .u64 c, .int .u64 d], .int .u64 x] w fun e w' => (∃ a' b' c' d', e = .returned (.agg #[.int .u64 a', .int .u64 b', .int .u64 c', .int .u64 d']) ∧ Hid (S4.mk a' b' c' d' = rnd ⟨a, b, c, d⟩ x)) ∧ Below w.heap.size w w' := by
  go_enter Try.func67, Try.ntmps67
  go_wp2_with fail
  go_quiet (fail)
  go_wp2_with (first | (go_at_call 69; refine (rotc _ _ _ (by omega) (by omega) (by first | exact b32 | exact b24 | exact b16 | exact b63)).mono ?_; rintro e w' ⟨rfl, rfl⟩))
  go_returns
  refine ⟨⟨_, _, _, _, rfl, rfl⟩, ?_⟩
  repeat' (first | refine Below.setCell ?_ (by simp <;> omega) _ | refine below_drewN ?_ _ | refine Below.alloc ?_ (by simp <;> omega) _ | exact Below.refl _ _)

set_option maxHeartbeats 400000 in
theorem xor_any (a b c d x y z u : Int) (w : World) :
    Calls Try.prog 61 #[.agg #[.int .u64 a, .int .u64 b, .int .u64 c, .int .u64 d], .agg #[.int .u64 x, .int .u64 y, .int .u64 z, .int .u64 u]] w fun e w' => (∃ a' b' c' d', e = .returned (.agg #[.int .u64 a', .int .u64 b', .int .u64 c', .int .u64 d']) ∧ Hid (S4.mk a' b' c' d' = xor4 ⟨a, b, c, d⟩ ⟨x, y, z, u⟩)) ∧ Below w.heap.size w w' := by
  have i0 : ∀ (w : World) (x0 x1 x2 x3 : Value), (Instr.index 93 (.agg #[x0, x1, x2, x3]) (.int .i64 0)).run Try.prog w = .ok x0 w := fun _ _ _ _ _ => by kernel_rfl
  have i1 : ∀ (w : World) (x0 x1 x2 x3 : Value), (Instr.index 93 (.agg #[x0, x1, x2, x3]) (.int .i64 1)).run Try.prog w = .ok x1 w := fun _ _ _ _ _ => by kernel_rfl
  have i2 : ∀ (w : World) (x0 x1 x2 x3 : Value), (Instr.index 93 (.agg #[x0, x1, x2, x3]) (.int .i64 2)).run Try.prog w = .ok x2 w := fun _ _ _ _ _ => by kernel_rfl
  have i3 : ∀ (w : World) (x0 x1 x2 x3 : Value), (Instr.index 93 (.agg #[x0, x1, x2, x3]) (.int .i64 3)).run Try.prog w = .ok x3 w := fun _ _ _ _ _ => by kernel_rfl
  go_enter Try.func61, Try.ntmps61
  go_wp2
  go_rounds 5
  go_returns
  refine ⟨⟨_, _, _, _, rfl, rfl⟩, ?_⟩
  repeat' (first | refine Below.setCell ?_ (by simp <;> omega) _ | refine below_drewN ?_ _ | refine Below.alloc ?_ (by simp <;> omega) _ | exact Below.refl _ _)

/-- Three new blocks of four words each, from block n on; what was there ahead of them is as it was. -/
structure Rows3 (n : Nat) (w0 w : World) (r2 r3 r4 : Array Value) : Prop where
  h2 : w.heap[n]? = some (.cells r2 93)
  h3 : w.heap[n + 1]? = some (.cells r3 93)
  h4 : w.heap[n + 1 + 1]? = some (.cells r4 93)
  bel : Below n w0 w
theorem Hid.mk {p : Prop} (h : p) : Hid p := h
theorem lt_of_get {α : Type} {xs : Array α} {i : Nat} {x : α} (h : xs[i]? = some x) : i < xs.size := (Array.getElem?_eq_some_iff.1 h).1
theorem Rows3.call {n : Nat} {w0 v w1 : World} {r2 r3 r4 : Array Value} (h : Rows3 n w0 v r2 r3 r4) (hb : Below v.heap.size v w1) : Rows3 n w0 w1 r2 r3 r4 := by
  have l := lt_of_get h.h4
  exact ⟨(hb.block _ (by omega)).trans h.h2, (hb.block _ (by omega)).trans h.h3, (hb.block _ (by omega)).trans h.h4, h.bel.trans (hb.mono (by omega))⟩
theorem cells4 {w : World} {g t : Nat} {x0 x1 x2 x3 : Value} (h : w.heap[g]? = some (.cells #[x0, x1, x2, x3] t)) :
    w.cell? ⟨g, 0, none⟩ = some x0 ∧ w.cell? ⟨g, 1, none⟩ = some x1 ∧ w.cell? ⟨g, 2, none⟩ = some x2 ∧ w.cell? ⟨g, 3, none⟩ = some x3 ∧ ∀ o, w.frozen? ⟨g, o, none⟩ = false :=
  ⟨by simp [World.cell?, h], by simp [World.cell?, h], by simp [World.cell?, h], by simp [World.cell?, h], fun o => frozen_of_row w g o _ t h⟩
theorem put4 {w : World} {g t : Nat} {x0 x1 x2 x3 : Value} (h : w.heap[g]? = some (.cells #[x0, x1, x2, x3] t)) (a b c d : Value) :
    ((((w.setCell ⟨g, 0, none⟩ a).setCell ⟨g, 1, none⟩ b).setCell ⟨g, 2, none⟩ c).setCell ⟨g, 3, none⟩ d).heap[g]? = some (.cells #[a, b, c, d] t) := by
  have h1 := heap_setCell_same w g 0 _ t a h
  have h2 := heap_setCell_same _ g 1 _ t b h1
  have h3 := heap_setCell_same _ g 2 _ t c h2
  have h4 := heap_setCell_same _ g 3 _ t d h3
  simpa using h4
theorem other4 {w : World} {g k : Nat} (hk : k ≠ g) (a b c d : Value) :
    ((((w.setCell ⟨g, 0, none⟩ a).setCell ⟨g, 1, none⟩ b).setCell ⟨g, 2, none⟩ c).setCell ⟨g, 3, none⟩ d).heap[k]? = w.heap[k]? := by
  rw [heap_setCell_other _ _ _ _ hk, heap_setCell_other _ _ _ _ hk, heap_setCell_other _ _ _ _ hk, heap_setCell_other _ _ _ _ hk]
theorem below4 {B : Nat} {w0 w : World} {g : Nat} (h : Below B w0 w) (hg : B ≤ g) (a b c d : Value) :
    Below B w0 ((((w.setCell ⟨g, 0, none⟩ a).setCell ⟨g, 1, none⟩ b).setCell ⟨g, 2, none⟩ c).setCell ⟨g, 3, none⟩ d) :=
  (((h.setCell hg a).setCell hg b).setCell hg c).setCell hg d
theorem Rows3.put {n : Nat} {w0 w : World} {x0 x1 x2 x3 : Value} {r3 r4 : Array Value} (h : Rows3 n w0 w #[x0, x1, x2, x3] r3 r4) (a b c d : Value) :
    Rows3 n w0 ((((w.setCell ⟨n, 0, none⟩ a).setCell ⟨n, 1, none⟩ b).setCell ⟨n, 2, none⟩ c).setCell ⟨n, 3, none⟩ d) #[a, b, c, d] r3 r4 :=
  ⟨put4 h.h2 a b c d, (other4 (by omega) a b c d).trans h.h3, (other4 (by omega) a b c d).trans h.h4, below4 h.bel (Nat.le_refl _) a b c d⟩
theorem rows3_new (w : World) (A B C : Array Value) : Rows3 w.heap.size w (((w.alloc (.cells A 93)).alloc (.cells B 93)).alloc (.cells C 93)) A B C := by
  have s1 : (w.alloc (.cells A 93)).heap.size = w.heap.size + 1 := by simp
  have s2 : ((w.alloc (.cells A 93)).alloc (.cells B 93)).heap.size = w.heap.size + 1 + 1 := by simp
  have h1 := heap_alloc_new w (.cells A 93)
  have h2 := heap_alloc_new (w.alloc (.cells A 93)) (.cells B 93)
  have h3 := heap_alloc_new ((w.alloc (.cells A 93)).alloc (.cells B 93)) (.cells C 93)
  rw [s1] at h2
  rw [s2] at h3
  exact ⟨by rw [Below.heap_alloc _ _ _ (by omega), Below.heap_alloc _ _ _ (by omega)]; exact h1, by rw [Below.heap_alloc _ _ _ (by omega)]; exact h2, h3,
   (((Below.refl _ _).alloc (Nat.le_refl _) _).alloc (by omega) _).alloc (by omega) _⟩
theorem Rows3.drew {n : Nat} {w0 w : World} {r2 r3 r4 : Array Value} (h : Rows3 n w0 w r2 r3 r4) : Rows3 n w0 w.drew r2 r3 r4 := ⟨h.h2, h.h3, h.h4, h.bel.drew⟩
theorem Rows3.alloc {n : Nat} {w0 w : World} {r2 r3 r4 : Array Value} (h : Rows3 n w0 w r2 r3 r4) (o : Obj) : Rows3 n w0 (w.alloc o) r2 r3 r4 := by
  have l := lt_of_get h.h4
  exact ⟨(Below.heap_alloc _ _ _ (by omega)).trans h.h2, (Below.heap_alloc _ _ _ (by omega)).trans h.h3, (Below.heap_alloc _ _ _ (by omega)).trans h.h4, h.bel.alloc (by omega) _⟩
theorem Rows3.size {n : Nat} {w0 w : World} {r2 r3 r4 : Array Value} (h : Rows3 n w0 w r2 r3 r4) : n + 1 + 1 < w.heap.size := lt_of_get h.h4
theorem Rows3.putAt {n : Nat} {w0 w : World} {r2 r3 r4 : Array Value} (h : Rows3 n w0 w r2 r3 r4) {g : Nat} (hg : n + 1 + 1 < g) (a b c d : Value) :
    Rows3 n w0 ((((w.setCell ⟨g, 0, none⟩ a).setCell ⟨g, 1, none⟩ b).setCell ⟨g, 2, none⟩ c).setCell ⟨g, 3, none⟩ d) r2 r3 r4 :=
  ⟨(other4 (by omega) a b c d).trans h.h2, (other4 (by omega) a b c d).trans h.h3, (other4 (by omega) a b c d).trans h.h4, below4 h.bel (by omega) a b c d⟩
theorem Below.row {W w1 : World} (hb : Below W.heap.size W w1) {g : Nat} {o : Obj} (h : W.heap[g]? = some o) : w1.heap[g]? = some o := (hb.block g (lt_of_get h)).trans h
theorem Rows3.sizes {n : Nat} {w0 w : World} {r2 r3 r4 : Array Value} (h : Rows3 n w0 w r2 r3 r4) : n < w.heap.size ∧ n + 1 < w.heap.size ∧ n + 1 + 1 < w.heap.size := by
  have l := lt_of_get h.h4
  omega
theorem rows3_fourth (w : World) (A B C D : Obj) : Hid ((((((w.alloc A).alloc B).alloc C).alloc D).heap[w.heap.size + 1 + 1 + 1]?) = some D) := by
  have s3 : (((w.alloc A).alloc B).alloc C).heap.size = w.heap.size + 1 + 1 + 1 := by simp
  have h := heap_alloc_new (((w.alloc A).alloc B).alloc C) D
  rw [s3] at h
  exact h
theorem stir_of {a b c d x y z u : Int} {s1 s2 s3 s4 s5 s6 s7 s8 : S4}
    (h1 : s1 = rnd ⟨a, b, c, d⟩ (IntKind.u64.wrap (x + 11400714819323198485)))
    (h2 : s2 = rnd s1 (IntKind.u64.wrap (y + IntKind.u64.wrap 22801429638646396970)))
    (h3 : s3 = rnd s2 (IntKind.u64.wrap (z + IntKind.u64.wrap 34202144457969595455)))
    (h4 : s4 = rnd s3 (IntKind.u64.wrap (u + IntKind.u64.wrap 45602859277292793940)))
    (h5 : s5 = rnd s4 (IntKind.u64.wrap (x + IntKind.u64.wrap 57003574096615992425)))
    (h6 : s6 = rnd s5 (IntKind.u64.wrap (y + IntKind.u64.wrap 68404288915939190910)))
    (h7 : s7 = rnd s6 (IntKind.u64.wrap (z + IntKind.u64.wrap 79805003735262389395)))
    (h8 : s8 = rnd s7 (IntKind.u64.wrap (u + IntKind.u64.wrap 91205718554585587880))) : s8 = stir ⟨a, b, c, d⟩ ⟨x, y, z, u⟩ := by
  rw [h8, h7, h6, h5, h4, h3, h2, h1]
  have e1 : wr (1 * kk) = 11400714819323198485 := by unfold wr kk; rw [IntKind.wrap_u64]; rfl
  unfold stir
  rw [e1]
  rfl
set_option maxHeartbeats 4000000 in
theorem stir_any (a b c d x y z u : Int) (w : World) :
    Calls Try.prog 60 #[.agg #[.int .u64 a, .int .u64 b, .int .u64 c, .int .u64 d], .agg #[.int .u64 x, .int .u64 y, .int .u64 z, .int .u64 u]] w fun e w' => (∃ a' b' c' d', e = .returned (.agg #[.int .u64 a', .int .u64 b', .int .u64 c', .int .u64 d']) ∧ Hid (S4.mk a' b' c' d' = stir ⟨a, b, c, d⟩ ⟨x, y, z, u⟩)) ∧ Below w.heap.size w w' := by
  have i0 : ∀ (w : World) (x0 x1 x2 x3 : Value), (Instr.index 93 (.agg #[x0, x1, x2, x3]) (.int .i64 0)).run Try.prog w = .ok x0 w := fun _ _ _ _ _ => by kernel_rfl
  have i1 : ∀ (w : World) (x0 x1 x2 x3 : Value), (Instr.index 93 (.agg #[x0, x1, x2, x3]) (.int .i64 1)).run Try.prog w = .ok x1 w := fun _ _ _ _ _ => by kernel_rfl
  have i2 : ∀ (w : World) (x0 x1 x2 x3 : Value), (Instr.index 93 (.agg #[x0, x1, x2, x3]) (.int .i64 2)).run Try.prog w = .ok x2 w := fun _ _ _ _ _ => by kernel_rfl
  have i3 : ∀ (w : World) (x0 x1 x2 x3 : Value), (Instr.index 93 (.agg #[x0, x1, x2, x3]) (.int .i64 3)).run Try.prog w = .ok x3 w := fun _ _ _ _ _ => by kernel_rfl
  have R0 := rows3_new w #[.int .u64 a, .int .u64 b, .int .u64 c, .int .u64 d] #[.int .u64 x, .int .u64 y, .int .u64 z, .int .u64 u] #[.int .u64 0, .int .u64 0, .int .u64 0, .int .u64 0]
  go_enter Try.func60, Try.ntmps60
  go_wp2
  go_step3
  go_wp2
  go_step3
  go_wp2
  refine wp_loop_rounds 2 ?_
  rw [rounds_succ]
  go_wp2
  refine wp_loop_rounds 5 ?_
  rw [rounds_succ]
  go_wp2_with fail
  refine (round_any _ _ _ _ _ _).mono ?_
  rintro e w1 ⟨⟨a1, b1, c1, d1, rfl, H1⟩, hb1⟩
  have S1 := Rows3.call R0 hb1
  obtain ⟨p1, q1, r1, s1, f1⟩ := cells4 S1.h2
  clear hb1
  go_wp2_with fail
  have R1 := Rows3.put S1 (.int .u64 a1) (.int .u64 b1) (.int .u64 c1) (.int .u64 d1)
  rw [rounds_succ]
  go_wp2_with fail
  refine (round_any _ _ _ _ _ _).mono ?_
  rintro e w2 ⟨⟨a2, b2, c2, d2, rfl, H2⟩, hb2⟩
  clear p1 q1 r1 s1 f1
  have S2 := Rows3.call R1 hb2
  obtain ⟨p2, q2, r2, s2, f2⟩ := cells4 S2.h2
  clear hb2
  go_wp2_with fail
  have R2 := Rows3.put S2 (.int .u64 a2) (.int .u64 b2) (.int .u64 c2) (.int .u64 d2)
  rw [rounds_succ]
  go_wp2_with fail
  refine (round_any _ _ _ _ _ _).mono ?_
  rintro e w3 ⟨⟨a3, b3, c3, d3, rfl, H3⟩, hb3⟩
  clear p2 q2 r2 s2 f2
  have S3 := Rows3.call R2 hb3
  obtain ⟨p3, q3, r3, s3, f3⟩ := cells4 S3.h2
  clear hb3
  go_wp2_with fail
  have R3 := Rows3.put S3 (.int .u64 a3) (.int .u64 b3) (.int .u64 c3) (.int .u64 d3)
  rw [rounds_succ]
  go_wp2_with fail
  refine (round_any _ _ _ _ _ _).mono ?_
  rintro e w4 ⟨⟨a4, b4, c4, d4, rfl, H4⟩, hb4⟩
  clear p3 q3 r3 s3 f3
  have S4 := Rows3.call R3 hb4
  obtain ⟨p4, q4, r4, s4, f4⟩ := cells4 S4.h2
  clear hb4
  go_wp2_with fail
  have R4 := Rows3.put S4 (.int .u64 a4) (.int .u64 b4) (.int .u64 c4) (.int .u64 d4)
  rw [rounds_succ]
  go_wp2_with fail
  rw [rounds_succ]
  obtain ⟨p0, q0, r0, s0, _⟩ := cells4 R4.h3
  go_wp2_with fail
  refine wp_loop_rounds 5 ?_
  rw [rounds_succ]
  go_wp2_with fail
  refine (round_any _ _ _ _ _ _).mono ?_
  rintro e w5 ⟨⟨a5, b5, c5, d5, rfl, H5⟩, hb5⟩
  clear p4 q4 r4 s4 f4
  clear p0 q0 r0 s0
  have S5 := Rows3.call R4 hb5
  obtain ⟨p5, q5, r5, s5, f5⟩ := cells4 S5.h2
  clear hb5
  go_wp2_with fail
  have R5 := Rows3.put S5 (.int .u64 a5) (.int .u64 b5) (.int .u64 c5) (.int .u64 d5)
  rw [rounds_succ]
  go_wp2_with fail
  refine (round_any _ _ _ _ _ _).mono ?_
  rintro e w6 ⟨⟨a6, b6, c6, d6, rfl, H6⟩, hb6⟩
  clear p5 q5 r5 s5 f5
  have S6 := Rows3.call R5 hb6
  obtain ⟨p6, q6, r6, s6, f6⟩ := cells4 S6.h2
  clear hb6
  go_wp2_with fail
  have R6 := Rows3.put S6 (.int .u64 a6) (.int .u64 b6) (.int .u64 c6) (.int .u64 d6)
  rw [rounds_succ]
  go_wp2_with fail
  refine (round_any _ _ _ _ _ _).mono ?_
  rintro e w7 ⟨⟨a7, b7, c7, d7, rfl, H7⟩, hb7⟩
  clear p6 q6 r6 s6 f6
  have S7 := Rows3.call R6 hb7
  obtain ⟨p7, q7, r7, s7, f7⟩ := cells4 S7.h2
  clear hb7
  go_wp2_with fail
  have R7 := Rows3.put S7 (.int .u64 a7) (.int .u64 b7) (.int .u64 c7) (.int .u64 d7)
  rw [rounds_succ]
  go_wp2_with fail
  refine (round_any _ _ _ _ _ _).mono ?_
  rintro e w8 ⟨⟨a8, b8, c8, d8, rfl, H8⟩, hb8⟩
  clear p7 q7 r7 s7 f7
  have S8 := Rows3.call R7 hb8
  obtain ⟨p8, q8, r8, s8, f8⟩ := cells4 S8.h2
  clear hb8
  obtain ⟨p9, q9, r9, s9, f9⟩ := cells4 S8.h4
  go_wp2_with fail
  rw [Exit.noGoto_ret]
  have T8 := Rows3.put S8 (.int .u64 a8) (.int .u64 b8) (.int .u64 c8) (.int .u64 d8)
  have hrow := put4 T8.h4 (.int .u64 a8) (.int .u64 b8) (.int .u64 c8) (.int .u64 d8)
  refine bodyPost_ret (results_cell_row Try.results60 _ _ (w.heap.size + 1 + 1) 93 #[.int .u64 a8, .int .u64 b8, .int .u64 c8, .int .u64 d8] (0, 0) _ rfl hrow Try.underlying93 rfl (by kernel_rfl)) rfl ?_
  exact ⟨⟨_, _, _, _, rfl, stir_of H1.out H2.out H3.out H4.out H5.out H6.out H7.out H8.out⟩, below4 T8.bel (by omega) _ _ _ _⟩
end Go.Proofs.Ytjpcfdhkgfaeeaa.Di

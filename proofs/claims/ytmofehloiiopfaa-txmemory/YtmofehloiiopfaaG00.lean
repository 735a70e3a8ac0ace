/- Bytes in memory: what is handed in, what a call makes of its own, how both stay; append, copy and the text of bytes. -/
import Derived.Test.YtmofehloiiopfaaRows
import Derived.WalkKit
import Derived.WalkSpells
import Derived.WalkLawsBesides
import Derived.BigQuiet
import Derived.Deep.QuietTactic
import Derived.Handy
import Derived.Deep.DrawnRows
import Derived.Laws.CopyOwn
import Derived.Laws.AppendOwnNone
import Derived.Deep.RegionLaw
import Derived.Deep.RegionHeld3
import Derived.Deep.DeepCutAuto
import Derived.ProofKit
import Derived.OpenShut
import Derived.ShutString
import Derived.ChangeOld
import Derived.SizedLaws
namespace Go.Proofs.Ytmofehloiiopfaa
open Go.RowKit
set_option linter.unusedVariables false
theorem Hid.mk {p : Prop} (h : p) : Hid p := h
theorem lt_of_get {α : Type} {xs : Array α} {i : Nat} {x : α} (h : xs[i]? = some x) : i < xs.size := (Array.getElem?_eq_some_iff.1 h).1
theorem Below.row {W w1 : World} (hb : Below W.heap.size W w1) {g : Nat} {o : Obj} (h : W.heap[g]? = some o) : w1.heap[g]? = some o := (hb.block g (lt_of_get h)).trans h
structure Touch (g : Nat) (w w' : World) : Prop where
  os : w'.os = w.os
  tape : w'.tape = w.tape
  output : w'.output = w.output
  size : w.heap.size ≤ w'.heap.size
  block : ∀ k, k < w.heap.size → k ≠ g → w'.heap[k]? = w.heap[k]?
theorem Touch.refl (g : Nat) (w : World) : Touch g w w := ⟨rfl, rfl, rfl, Nat.le_refl _, fun _ _ _ => rfl⟩
theorem Touch.trans {g : Nat} {a b c : World} (h : Touch g a b) (k : Touch g b c) : Touch g a c :=
  ⟨k.os.trans h.os, k.tape.trans h.tape, k.output.trans h.output, Nat.le_trans h.size k.size, fun i hi hg => (k.block i (Nat.lt_of_lt_of_le hi h.size) hg).trans (h.block i hi hg)⟩
theorem Touch.of_below {g : Nat} {a b : World} (h : Below a.heap.size a b) : Touch g a b := ⟨h.os, h.tape, h.output, h.size, fun i hi _ => h.block i hi⟩
theorem Touch.setCell (g : Nat) (w : World) (o : Nat) (v : Value) : Touch g w (w.setCell ⟨g, o, none⟩ v) := ⟨rfl, rfl, rfl, by simp, fun k _ hk => heap_setCell_other _ _ _ _ hk⟩
theorem Touch.setRow (g : Nat) (w : World) (C : Array Value) : Touch g w (w.setRow g C) := ⟨rfl, rfl, rfl, by simp, fun k _ hk => setRow_other _ _ _ _ hk⟩
theorem Touch.below {g N : Nat} {w0 w w' : World} (h : Below N w0 w) (t : Touch g w w') (hN : N ≤ g) (hs : N ≤ w.heap.size) : Below N w0 w' :=
  h.trans ⟨t.os, t.tape, t.output, t.size, fun k hk => t.block k (by omega) (by omega)⟩
theorem B8_one2 (bs : List Int) : ∀ v ∈ bs.map (Value.int .u8), v.oneCell' = true := by
  intro v hv
  obtain ⟨x, _, rfl⟩ := List.mem_map.1 hv
  rfl
def OwnB (w : World) (base : Nat) (v : Value) (bs : List Int) : Prop := w.ownsRow base 5 1 v bs.length (bs.map (Value.int .u8))
theorem info5 : ∃ i, Try.prog.info? 5 = some i ∧ i.zero = some (.int .u8 0) ∧ i.size = 1 ∧ i.bytes = 1 := by
  have h : (Try.prog.info? 5).map (fun i => (i.zero, i.size, i.bytes)) = some (some (.int .u8 0), 1, 1) := by kernel_rfl
  cases hq : Try.prog.info? 5 with
  | none => rw [hq] at h; simp at h
  | some i => rw [hq] at h; simp at h; exact ⟨i, rfl, h.1, h.2.1, h.2.2⟩
theorem app_own {w : World} {ops : Array Oper} {rest : List Oper} {o : Oper} {a : Act} {Q : Exit → Act → World → Prop} (hgd : o.guard = none) (s x : Operand)
    (ho : o.op = .call { callee := .builtin .append, args := #[s, x], argTypes := #[24, 24] }) (base : Nat) (v : Value) (bs : List Int) (hs : a.eval s = v) (hown : OwnB w base v bs)
    (ad : Addr) (m c : Nat) (news : List Int) (hx : a.eval x = .slice (some ad) m c) (hl : news.length = m) (hnews : ∀ j u, (news.map (Value.int .u8))[j]? = some u → w.cell? (ad.add j) = some u)
    (hbytes : bs.length + m ≤ 140737488355328) (hbase : base ≤ w.heap.size)
    (h : ∀ v' w', OwnB w' base v' (bs ++ news) → w.grownBy w' v.ownBlock → (v' = .slice none 0 0 ↔ v = .slice none 0 0 ∧ m = 0) → wpList Try.prog ops Q rest (a.put o.dst v') w') : wpList Try.prog ops Q (o :: rest) a w := by
  obtain ⟨i, hi, hz, hsz, hby⟩ := info5
  refine wpList_append_own w hgd s x 24 ho base 5 i (.int .u8 0) 1 1 Try.underlying24 hi hz hsz hby rfl (by decide) v bs.length (bs.map (Value.int .u8)) hs hown ad m c (news.map (Value.int .u8)) hx (by simpa using hl) hnews (B8_one2 _) (by unfold maxLen; omega) (by omega) hbase ?_
  intro v' w' h1 h2 h3
  refine h v' w' ?_ h2 h3
  unfold OwnB
  rw [List.length_append, hl, List.map_append]
  exact h1
theorem app_none {w : World} {ops : Array Oper} {rest : List Oper} {o : Oper} {a : Act} {Q : Exit → Act → World → Prop} (hgd : o.guard = none) (s x : Operand)
    (ho : o.op = .call { callee := .builtin .append, args := #[s, x], argTypes := #[24, 24] }) (base : Nat) (v : Value) (bs : List Int) (hs : a.eval s = v) (hown : OwnB w base v bs)
    (hx : a.eval x = .slice none 0 0) (h : wpList Try.prog ops Q rest (a.put o.dst v) w) : wpList Try.prog ops Q (o :: rest) a w := by
  obtain ⟨i, hi, _, _, _⟩ := info5
  exact wpList_append_own_none hgd s x 24 ho base 5 i 1 Try.underlying24 hi v bs.length _ hs hown hx h
def InB (w : World) (a : Option Addr) (len cap : Nat) (bs : List Int) : Prop :=
  (a = none ∧ len = 0 ∧ cap = 0 ∧ bs = []) ∨ ∃ ad, a = some ad ∧ bs.length = len ∧ ∀ j u, (bs.map (Value.int .u8))[j]? = some u → w.cell? (ad.add j) = some u
theorem OwnB.slice {w : World} {base : Nat} {v : Value} {bs : List Int} (h : OwnB w base v bs) (hne : 0 < bs.length) :
    ∃ g cap, v = .slice (some ⟨g, 0, none⟩) bs.length cap ∧ base ≤ g ∧ g < w.heap.size ∧ bs.length ≤ cap ∧ cap ≤ maxLen ∧ ∀ j, j < bs.length → w.cell? ⟨g, j, none⟩ = some (.int .u8 (bs.getD j 0)) := by
  obtain ⟨_, h2⟩ := h
  rcases h2 with ⟨_, h2⟩ | ⟨g, cap, cur, hv, hg, hh, hn, hcap, hsz, ht⟩
  · omega
  · refine ⟨g, cap, hv, hg, lt_of_get hh, hn, hcap, ?_⟩
    intro j hj
    rw [cell_of_row w g j _ _ _ hh]
    have e : (cur.toList.take (bs.length * 1))[j]? = (bs.map (Value.int .u8))[j]? := by rw [ht]
    rw [List.getElem?_take_of_lt (by omega)] at e
    simp at e
    rw [e]
    simp [List.getElem?_eq_getElem hj]
theorem OwnB.lt {w : World} {base : Nat} {v : Value} {bs : List Int} (h : OwnB w base v bs) : ∀ k, v.ownBlock = some k → base ≤ k := fun k hk => (World.ownsRow.lt h k hk).1
def In0 (w : World) (a : Option Addr) (len cap : Nat) (bs : List Int) : Prop :=
  (len = 0 ∧ bs = []) ∨ ∃ gb off, a = some ⟨gb, off, none⟩ ∧ bs.length = len ∧ 0 < len ∧ len ≤ cap ∧ cap ≤ maxLen ∧ ∀ j, j < bs.length → w.cell? ⟨gb, off + j, none⟩ = some (.int .u8 (bs.getD j 0))
theorem In0.mono {w w' : World} {a : Option Addr} {len cap : Nat} {bs : List Int} (h : In0 w a len cap bs) (hb : Below w.heap.size w w') : In0 w' a len cap bs := by
  rcases h with h | ⟨gb, off, h1, h2, h3, h4, h5, h7⟩
  · exact .inl h
  · exact .inr ⟨gb, off, h1, h2, h3, h4, h5, fun j hj => (hb.cell (p := ⟨gb, off + j, none⟩) (block_lt_of_cell (h7 j hj))).trans (h7 j hj)⟩
theorem In0.drew {w : World} {a : Option Addr} {len cap : Nat} {bs : List Int} (h : In0 w a len cap bs) : In0 w.drew a len cap bs := by
  rcases h with h | ⟨gb, off, h1, h2, h3, h4, h5, h7⟩
  · exact .inl h
  · exact .inr ⟨gb, off, h1, h2, h3, h4, h5, h7⟩
theorem addr_add (g o j : Nat) : (⟨g, o, none⟩ : Addr).add j = ⟨g, o + j, none⟩ := by unfold Addr.add; split <;> simp_all
theorem In0.inB {w : World} {a : Option Addr} {len cap : Nat} {bs : List Int} (h : In0 w a len cap bs) (hnil : a = none → len = 0 ∧ cap = 0) : InB w a len cap bs := by
  rcases h with ⟨h1, h2⟩ | ⟨gb, off, h1, h2, h3, h4, h5, h7⟩
  · cases a with
    | none => exact .inl ⟨rfl, h1, (hnil rfl).2, h2⟩
    | some ad => exact .inr ⟨ad, rfl, by rw [h2, h1]; rfl, fun j u hu => by rw [h2] at hu; simp at hu⟩
  · refine .inr ⟨_, h1, h2, fun j u hu => ?_⟩
    have hj : j < bs.length := by have := (List.getElem?_eq_some_iff.1 hu).1; simpa using this
    rw [addr_add, h7 j hj, ← hu]
    simp [List.getElem?_eq_getElem hj]
theorem OwnB.in0 {w : World} {base : Nat} {v : Value} {bs : List Int} (h : OwnB w base v bs) : ∃ a cap, v = .slice a bs.length cap ∧ In0 w a bs.length cap bs ∧ (a = none → bs.length = 0 ∧ cap = 0) := by
  by_cases hp : 0 < bs.length
  · obtain ⟨g, cap, hv, h1, h2, h3, h4, h5⟩ := h.slice hp
    exact ⟨_, cap, hv, .inr ⟨g, 0, rfl, rfl, hp, h3, h4, fun j hj => by rw [Nat.zero_add]; exact h5 j hj⟩, fun hh => by cases hh⟩
  · have h0 : bs.length = 0 := by omega
    have hb0 : bs = [] := List.eq_nil_of_length_eq_zero h0
    obtain ⟨_, h2⟩ := h
    rcases h2 with ⟨hv, _⟩ | ⟨g, cap, cur, hv, _⟩
    · exact ⟨none, 0, by rw [hv, h0], .inl ⟨h0, hb0⟩, fun _ => ⟨h0, rfl⟩⟩
    · exact ⟨some ⟨g, 0, none⟩, cap, hv, .inl ⟨h0, hb0⟩, fun hh => by cases hh⟩
theorem conv_any {w : World} {a : Option Addr} {len cap : Nat} {bs : List Int} (h : In0 w a len cap bs) : (convert 24 9 (.slice a len cap)).run Try.prog w = .ok (.string (strOfNums bs)) w := by
  rcases h with ⟨rfl, rfl⟩ | ⟨gb, off, rfl, h2, h3, h4, h5, h7⟩
  · cases a with
    | none => exact run_convert_bytes_nil w 24 5 Try.underlying24 Try.underlying5 0 cap 9 Try.underlying9
    | some ad =>
      rw [run_convert_bytes_string w 24 9 5 _ 0 cap Try.underlying24 Try.underlying5 Try.underlying9, run_bytesToString w ad 0 cap [] (by have := run_loadCells_list (P := Try.prog) w ad [] (fun j v hv => by simp at hv); simpa using this)]
      rfl
  · exact run_convert_bytes_arg w 24 5 Try.underlying24 Try.underlying5 gb off len cap bs h2 (fun i hi => h7 i (by omega)) 9 Try.underlying9
theorem wpl_copy {w : World} {ops : Array Oper} {rest : List Oper} {o : Oper} {a : Act} {Q : Exit → Act → World → Prop} (hgd : o.guard = none) (d x : Operand)
    (ho : o.op = .call { callee := .builtin .copy, args := #[d, x], argTypes := #[24, 24] }) (v u : Value) (hd : a.eval d = v) (hx : a.eval x = u) {v' : Value} {w' : World}
    (hr : (Builtin.copy_ #[24, 24] o.type #[v, u]).run Try.prog w = .ok v' w') (h : wpList Try.prog ops Q rest (a.put o.dst v') w') : wpList Try.prog ops Q (o :: rest) a w := by
  refine wpList_plain hgd fun K hK => ?_
  unfold Oper.wp
  simp [execOp, ho, resolve, invoke, builtin, hd, hx, hr, Result.andThen]
  exact hK _ _ h
theorem app_any {w : World} {ops : Array Oper} {rest : List Oper} {o : Oper} {a : Act} {Q : Exit → Act → World → Prop} (hgd : o.guard = none) (s x : Operand)
    (ho : o.op = .call { callee := .builtin .append, args := #[s, x], argTypes := #[24, 24] }) (base : Nat) (v : Value) (bs : List Int) (hs : a.eval s = v) (hown : OwnB w base v bs)
    (ad : Option Addr) (m c : Nat) (news : List Int) (hx : a.eval x = .slice ad m c) (hin : In0 w ad m c news) (hnil : ad = none → m = 0 ∧ c = 0) (hl : news.length = m)
    (hbytes : bs.length + m ≤ 140737488355328) (hbase : base ≤ w.heap.size)
    (h : ∀ v' w', OwnB w' base v' (bs ++ news) → Below base w w' → wpList Try.prog ops Q rest (a.put o.dst v') w') : wpList Try.prog ops Q (o :: rest) a w := by
  cases ad with
  | none =>
    obtain ⟨rfl, rfl⟩ := hnil rfl
    have hn0 : news = [] := List.eq_nil_of_length_eq_zero hl
    subst hn0
    refine app_none hgd s x ho base v bs hs hown hx ?_
    exact h v w (by rw [List.append_nil]; exact hown) (Below.refl _ _)
  | some ad =>
    have hB := hin.inB hnil
    have hc : ∀ j u, (news.map (Value.int .u8))[j]? = some u → w.cell? (ad.add j) = some u := by
      rcases hB with ⟨h, _⟩ | ⟨ad', h1, _, h3⟩
      · cases h
      · cases h1; exact h3
    refine app_own hgd s x ho base v bs hs hown ad m c news hx hl hc hbytes hbase ?_
    intro v' w' o' g' _
    exact h v' w' o' ((Below.refl _ _).grown g' hbase hown.lt)
structure Ag (w0 : World) (a : Option Addr) (len cap : Nat) (bs : List Int) : Prop where
  i : In0 w0 a len cap bs
  nil : a = none → len = 0 ∧ cap = 0
  l : bs.length = len
  b : ∀ x ∈ bs, 0 ≤ x ∧ x < 256
theorem Ag.at {w0 w : World} {a : Option Addr} {len cap : Nat} {bs : List Int} (h : Ag w0 a len cap bs) (hb : Below w0.heap.size w0 w) : Ag w a len cap bs := ⟨h.i.mono hb, h.nil, h.l, h.b⟩
theorem OwnB.ag {w : World} {base : Nat} {v : Value} {bs : List Int} (h : OwnB w base v bs) (hb : ∀ x ∈ bs, 0 ≤ x ∧ x < 256) : ∃ a cap, v = .slice a bs.length cap ∧ Ag w a bs.length cap bs := by
  obtain ⟨a, cap, hv, h1, h2⟩ := h.in0
  exact ⟨a, cap, hv, h1, h2, rfl, hb⟩
theorem mem_app {xs ys : List Int} (h1 : ∀ x ∈ xs, 0 ≤ x ∧ x < 256) (h2 : ∀ x ∈ ys, 0 ≤ x ∧ x < 256) : ∀ x ∈ xs ++ ys, 0 ≤ x ∧ x < 256 := by
  intro x hx
  rcases List.mem_append.1 hx with hx | hx
  · exact h1 x hx
  · exact h2 x hx
theorem OwnB.below {w w' : World} {base : Nat} {v : Value} {bs : List Int} (h : OwnB w base v bs) (hb : Below w.heap.size w w') : OwnB w' base v bs := by
  refine ⟨h.1, ?_⟩
  rcases h.2 with h2 | ⟨k, cap, cur, hv, hb', hh, r⟩
  · exact .inl h2
  · exact .inr ⟨k, cap, cur, hv, hb', Below.row hb hh, r⟩
end Go.Proofs.Ytmofehloiiopfaa
/- How a slice of bytes that is handed in reads as data: nil, or a row of bytes that takes no more than the form's own reach. -/
namespace Go.Proofs.Ytmofehloiiopfaa
open Go.ChangeShapes Go.WideShapes Go.ChangeAt Go.RowKit
open Go.ChangeMaps (open_string shut_string)
set_option linter.unusedVariables false
set_option maxRecDepth 100000
theorem own : ownKnob Try.prog.godebug = none := by kernel_rfl
theorem laidOut : laidOutB Try.prog = true := by kernel_rfl
theorem cells5 : Try.prog.cellsOf 5 = 1 := by kernel_rfl
theorem bytes5 : Try.prog.bytesOf 5 = 1 := by kernel_rfl
/-- A slice of bytes that came in, opened: its bytes; it takes no more than the reach. -/
theorem open_bytes {H : Type} {enc : TypeId × Value → H} {w : World} {base b0 : Nat} {r : Reach} {held : Bool} {v : Value} {d : DataW H} {p : List MemPlace}
    (hv : Value.okWide Try.prog w r b0 24 v) (h : DataW.Trod enc Try.prog w base (fun _ => true) held 24 v d p)
    (hsz : ∀ elems spare, d = .slice elems spare → (elems.length + spare.length) * Try.prog.bytesOf 5 ≤ reachBytes) :
    ∃ a len cap bs, v = .slice a len cap ∧ In0 w a len cap bs ∧ (a = none → len = 0 ∧ cap = 0) ∧ bs.length = len ∧ (∀ x ∈ bs, 0 ≤ x ∧ x < 256) ∧ len ≤ 140737488351232 := by
  obtain ⟨a, len, cap, rfl⟩ := okWide_slice Try.underlying24 hv
  obtain ⟨fuel, hf⟩ := h
  rcases open_ints Try.underlying24 Try.underlying5 cells5 hf with ⟨hcs, _⟩ | ⟨x, l, c, zs, hcs, _, hl, hm, hz, hx, hcell, hwz⟩
  · simp [Value.cells] at hcs
    obtain ⟨rfl, rfl, rfl⟩ := hcs
    exact ⟨none, 0, 0, [], rfl, .inl ⟨rfl, rfl⟩, fun _ => ⟨rfl, rfl⟩, rfl, (fun x hx => by cases hx), by omega⟩
  · simp [Value.cells] at hcs
    obtain ⟨rfl, rfl, rfl⟩ := hcs
    have hz2 : zs.length = cap := by simpa using hz
    have hsz2 := hsz _ _ (Prod.mk.inj hx).1
    rw [bytes5] at hsz2
    simp only [lits, List.length_map, List.length_take, List.length_drop, reachBytes] at hsz2
    have hlen : (zs.take len).length = len := by rw [List.length_take]; omega
    have hbd : ∀ n ∈ zs.take len, 0 ≤ n ∧ n < 256 := fun n hn => by
      have := bounds_u8 (hwz n (List.mem_of_mem_take hn))
      omega
    refine ⟨some x, len, cap, zs.take len, rfl, ?_, (fun h => by cases h), hlen, hbd, by omega⟩
    by_cases h0 : len = 0
    · subst h0
      exact .inl ⟨rfl, by simp⟩
    · obtain ⟨b, off, spot⟩ := x
      have hc := hcell 0 (by omega)
      have hspot : spot = none := by simpa [Addr.add] using World.cell?_spot hc
      subst hspot
      refine .inr ⟨b, off, rfl, hlen, by omega, hl, hm, fun j hj => ?_⟩
      rw [hlen] at hj
      have := hcell j (by omega)
      rw [addr_add] at this
      rw [this, List.getD, List.getD, List.getElem?_take_of_lt hj]
theorem open_ag {H : Type} {enc : TypeId × Value → H} {w : World} {base b0 : Nat} {r : Reach} {held : Bool} {v : Value} {d : DataW H} {p : List MemPlace}
    (hv : Value.okWide Try.prog w r b0 24 v) (h : DataW.Trod enc Try.prog w base (fun _ => true) held 24 v d p)
    (hsz : ∀ elems spare, d = .slice elems spare → (elems.length + spare.length) * Try.prog.bytesOf 5 ≤ reachBytes) :
    ∃ a len cap bs, v = .slice a len cap ∧ Ag w a len cap bs ∧ len ≤ 140737488351232 := by
  obtain ⟨a, len, cap, bs, h1, h2, h3, h4, h5, h6⟩ := open_bytes hv h hsz
  exact ⟨a, len, cap, bs, h1, ⟨h2, h3, h4, h5⟩, h6⟩
end Go.Proofs.Ytmofehloiiopfaa
/- The items of package nest as plain trees, their encodings, what is amiss with them, and what bytes begin with: plain functions. -/
namespace Go.Proofs.Ytmofehloiiopfaa
set_option linter.unusedVariables false
/-- An item. -/
inductive T where
  | mk (l : Bool) (bs : List Int) (its : List T)
instance : Inhabited T := ⟨.mk false [] []⟩
def T.l : T → Bool | .mk l _ _ => l
def T.bs : T → List Int | .mk _ bs _ => bs
def T.its : T → List T | .mk _ _ its => its
/-- How many bytes a number has. -/
def nb (n : Nat) : Nat := if h : n = 0 then 0 else 1 + nb (n / 256)
decreasing_by exact Nat.div_lt_self (Nat.pos_of_ne_zero h) (by decide)
/-- The bytes of a number, the highest first. -/
def be (n : Nat) : List Int := if h : n = 0 then [] else be (n / 256) ++ [((n % 256 : Nat) : Int)]
decreasing_by exact Nat.div_lt_self (Nat.pos_of_ne_zero h) (by decide)
theorem nb_zero : nb 0 = 0 := by rw [nb]; rfl
theorem nb_pos {n : Nat} (h : 0 < n) : nb n = 1 + nb (n / 256) := by rw [nb, dif_neg (by omega)]
theorem be_zero : be 0 = [] := by rw [be]; rfl
theorem be_pos {n : Nat} (h : 0 < n) : be n = be (n / 256) ++ [((n % 256 : Nat) : Int)] := by rw [be, dif_neg (by omega)]
theorem be_len (n : Nat) : (be n).length = nb n := by
  induction n using Nat.strongRecOn with
  | _ n ih =>
    by_cases h : n = 0
    · subst h; rw [be_zero, nb_zero]; rfl
    · rw [be_pos (by omega), nb_pos (by omega), List.length_append, ih _ (Nat.div_lt_self (by omega) (by decide))]
      simp [Nat.add_comm]
theorem nb_one {n : Nat} (h0 : 0 < n) (h : n < 256) : nb n = 1 := by rw [nb_pos h0, show n / 256 = 0 from by omega, nb_zero]
theorem nb_two {n : Nat} (h0 : 256 ≤ n) (h : n < 65536) : nb n = 2 := by rw [nb_pos (by omega), nb_one (by omega) (by omega)]
theorem nb_three {n : Nat} (h0 : 65536 ≤ n) (h : n < 16777216) : nb n = 3 := by rw [nb_pos (by omega), nb_two (by omega) (by omega)]
theorem nb_le {n : Nat} (h : n < 4294967296) : nb n ≤ 4 := by
  by_cases h0 : n = 0
  · subst h0; rw [nb_zero]; omega
  · by_cases h1 : n < 256
    · rw [nb_one (by omega) h1]; omega
    · by_cases h2 : n < 65536
      · rw [nb_two (by omega) h2]; omega
      · by_cases h3 : n < 16777216
        · rw [nb_three (by omega) h3]; omega
        · rw [nb_pos (by omega), nb_three (by omega) (by omega)]; omega
theorem nb_le3 {n : Nat} (h : n < 16777216) : nb n ≤ 3 := by
  by_cases h0 : n = 0
  · subst h0; rw [nb_zero]; omega
  · by_cases h1 : n < 256
    · rw [nb_one (by omega) h1]; omega
    · by_cases h2 : n < 65536
      · rw [nb_two (by omega) h2]; omega
      · rw [nb_three (by omega) h]; omega
theorem nb_ge {n : Nat} (h : 0 < n) : 1 ≤ nb n := by rw [nb_pos h]; omega
theorem be_one {n : Nat} (h0 : 0 < n) (h : n < 256) : be n = [(n : Int)] := by
  rw [be_pos h0, show n / 256 = 0 from by omega, be_zero, show n % 256 = n from by omega]; rfl
theorem be_two {n : Nat} (h0 : 256 ≤ n) (h : n < 65536) : be n = [((n / 256 : Nat) : Int), ((n % 256 : Nat) : Int)] := by
  rw [be_pos (by omega), be_one (by omega) (by omega)]; rfl
theorem be_three {n : Nat} (h0 : 65536 ≤ n) (h : n < 16777216) : be n = [((n / 65536 : Nat) : Int), ((n / 256 % 256 : Nat) : Int), ((n % 256 : Nat) : Int)] := by
  rw [be_pos (by omega), be_two (by omega) (by omega), Nat.div_div_eq_div_mul]; rfl
/-- What stands ahead of a body of n bytes. -/
def hd (base n : Nat) : List Int := if n ≤ 55 then [((base + n : Nat) : Int)] else ((base + 55 + nb n : Nat) : Int) :: be n
theorem hd_len (base n : Nat) : (hd base n).length = 1 + (if 55 < n then nb n else 0) := by
  unfold hd
  by_cases h : n ≤ 55
  · rw [if_pos h, if_neg (by omega)]; rfl
  · rw [if_neg h, if_pos (by omega), List.length_cons, be_len]; omega
/-- Is the encoding of these bytes, as a text, themselves? -/
def bare (l : Bool) (bs : List Int) : Bool := !l && (decide (bs.length = 1) && decide (bs.headD 0 < 128))
def baseOf (l : Bool) : Nat := if l then 192 else 128
mutual
/-- The encoding. -/
def enc : T → List Int
  | .mk l bs its => if bare l (bs ++ encs its) then bs ++ encs its else hd (baseOf l) (bs ++ encs its).length ++ (bs ++ encs its)
def encs : List T → List Int
  | [] => []
  | t :: r => enc t ++ encs r
end
def bodyOf (t : T) : List Int := t.bs ++ encs t.its
theorem enc_eq (l : Bool) (bs : List Int) (its : List T) : enc (.mk l bs its) = if bare l (bs ++ encs its) then bs ++ encs its else hd (baseOf l) (bs ++ encs its).length ++ (bs ++ encs its) := by rw [enc]
theorem encs_nil : encs [] = [] := by rw [encs]
theorem encs_cons (t : T) (r : List T) : encs (t :: r) = enc t ++ encs r := by rw [encs]
theorem encs_append : ∀ a b : List T, encs (a ++ b) = encs a ++ encs b
  | [], b => by rw [encs_nil]; rfl
  | t :: r, b => by rw [List.cons_append, encs_cons, encs_cons, encs_append r b, List.append_assoc]
mutual
/-- Is it a text without things, or a list without bytes, and so all in it? -/
def form : T → Bool
  | .mk l bs its => (if l then bs.isEmpty else its.isEmpty) && forms its
def forms : List T → Bool
  | [] => true
  | t :: r => form t && forms r
end
theorem form_eq (l : Bool) (bs : List Int) (its : List T) : form (.mk l bs its) = ((if l then bs.isEmpty else its.isEmpty) && forms its) := by rw [form]
theorem forms_nil : forms [] = true := by rw [forms]
theorem forms_cons (t : T) (r : List T) : forms (t :: r) = (form t && forms r) := by rw [forms]
mutual
/-- Are all bytes from 0 to 255? -/
def byt : T → Prop
  | .mk l bs its => (∀ x ∈ bs, 0 ≤ x ∧ x < 256) ∧ byts its
def byts : List T → Prop
  | [] => True
  | t :: r => byt t ∧ byts r
end
theorem byt_eq (l : Bool) (bs : List Int) (its : List T) : byt (.mk l bs its) ↔ ((∀ x ∈ bs, 0 ≤ x ∧ x < 256) ∧ byts its) := by rw [byt]
theorem byts_cons (t : T) (r : List T) : byts (t :: r) ↔ (byt t ∧ byts r) := by rw [byts]
/-- A weight. -/
def wt (l : Bool) (bs : List Int) (d : Nat) : Nat := if l && d == 0 then 0 else max bs.length 1
def wrongForm (l : Bool) (bs : List Int) (its : List T) : Bool := (l && decide (0 < bs.length)) || (!l && decide (0 < its.length))
mutual
/-- What is amiss with an item that stands in d lists, w being the weight so far: the weight behind it, and the error. -/
def wk : T → Nat → Nat → Nat × Nat
  | .mk l bs its, d, w =>
    if l && decide (8 ≤ d) then (w, 21)
    else if wrongForm l bs its then (w, 23)
    else if 16777215 < w + wt l bs d then (w + wt l bs d, 20)
    else wks its (d + 1) (w + wt l bs d)
def wks : List T → Nat → Nat → Nat × Nat
  | [], d, w => (w, 0)
  | t :: r, d, w => if (wk t d w).2 = 0 then wks r d (wk t d w).1 else wk t d w
end
theorem wk_eq (l : Bool) (bs : List Int) (its : List T) (d w : Nat) : wk (.mk l bs its) d w = if l && decide (8 ≤ d) then (w, 21) else if wrongForm l bs its then (w, 23) else if 16777215 < w + wt l bs d then (w + wt l bs d, 20) else wks its (d + 1) (w + wt l bs d) := by rw [wk]
theorem wks_nil (d w : Nat) : wks [] d w = (w, 0) := by rw [wks]
theorem wks_cons (t : T) (r : List T) (d w : Nat) : wks (t :: r) d w = if (wk t d w).2 = 0 then wks r d (wk t d w).1 else wk t d w := by rw [wks]
mutual
/-- How many bytes the encoding has. -/
def sz : T → Nat
  | .mk l bs its => if bare l bs then bs.length + szs its else 1 + (bs.length + szs its) + (if 55 < bs.length + szs its then nb (bs.length + szs its) else 0)
def szs : List T → Nat
  | [] => 0
  | t :: r => sz t + szs r
end
def szOf (l : Bool) (bs : List Int) (n : Nat) : Nat := if bare l bs then n else 1 + n + (if 55 < n then nb n else 0)
def szb (t : T) : Nat := t.bs.length + szs t.its
theorem sz_eq (l : Bool) (bs : List Int) (its : List T) : sz (.mk l bs its) = szOf l bs (bs.length + szs its) := by rw [sz]; rfl
theorem szs_nil : szs [] = 0 := by rw [szs]
theorem szs_cons (t : T) (r : List T) : szs (t :: r) = sz t + szs r := by rw [szs]
theorem szs_append : ∀ a b : List T, szs (a ++ b) = szs a + szs b
  | [], b => by rw [szs_nil]; simp
  | t :: r, b => by rw [List.cons_append, szs_cons, szs_cons, szs_append r b]; omega
/-- An induction over items. -/
theorem T.ind {p : T → Prop} (h : ∀ l bs its, (∀ t ∈ its, p t) → p (.mk l bs its)) : ∀ t, p t := by
  intro t
  refine T.rec (motive_1 := p) (motive_2 := fun its => ∀ t ∈ its, p t) (fun l bs its ih => h l bs its ih) (fun t ht => by cases ht) (fun t r ht hr => ?_) t
  intro x hx
  rcases List.mem_cons.1 hx with rfl | hx
  · exact ht
  · exact hr x hx
theorem form_text {bs : List Int} {its : List T} (h : form (.mk false bs its) = true) : its = [] := by
  rw [form_eq] at h
  cases its with
  | nil => rfl
  | cons t r => simp at h
theorem form_list {bs : List Int} {its : List T} (h : form (.mk true bs its) = true) : bs = [] ∧ forms its = true := by
  rw [form_eq] at h
  cases bs with
  | nil => simpa using h
  | cons t r => simp at h
theorem forms_mem : ∀ {its : List T}, forms its = true → ∀ t ∈ its, form t = true
  | [], _, t, ht => by cases ht
  | x :: r, h, t, ht => by
    rw [forms_cons, Bool.and_eq_true] at h
    rcases List.mem_cons.1 ht with rfl | ht
    · exact h.1
    · exact forms_mem h.2 t ht
theorem bare_app (bs : List Int) (l : Bool) (its : List T) (h : form (.mk l bs its) = true) : bare l (bs ++ encs its) = bare l bs := by
  cases l with
  | true => simp [bare]
  | false => rw [form_text h, encs_nil, List.append_nil]
theorem szs_len {its : List T} (h : ∀ t ∈ its, sz t = (enc t).length) : szs its = (encs its).length := by
  induction its with
  | nil => rw [szs_nil, encs_nil]; rfl
  | cons t r ih =>
    rw [szs_cons, encs_cons, List.length_append, h t (List.mem_cons_self ..), ih fun x hx => h x (List.mem_cons_of_mem _ hx)]
theorem sz_len : ∀ t, form t = true → sz t = (enc t).length := by
  refine T.ind fun l bs its ih h => ?_
  have hf : forms its = true := by
    cases l with
    | true => exact (form_list h).2
    | false => rw [form_text h, forms_nil]
  have hs := szs_len (its := its) fun t ht => ih t ht (forms_mem hf t ht)
  rw [sz_eq, enc_eq, bare_app _ _ _ h, szOf]
  by_cases hb : bare l bs = true
  · rw [if_pos hb, if_pos hb, hs, List.length_append]
  · rw [if_neg hb, if_neg hb, List.length_append, hd_len, List.length_append, hs]; omega
theorem szb_len {t : T} (h : form t = true) : szb t = (bodyOf t).length := by
  cases t with
  | mk l bs its =>
    have hf : forms its = true := by
      cases l with
      | true => exact (form_list h).2
      | false => rw [form_text h, forms_nil]
    show bs.length + szs its = (bs ++ encs its).length
    rw [List.length_append, szs_len fun t ht => sz_len t (forms_mem hf t ht)]
theorem wks_mem : ∀ {its : List T} {d w : Nat}, (wks its d w).2 = 0 → ∀ t ∈ its, ∃ w', (wk t d w').2 = 0
  | [], _, _, _, t, ht => by cases ht
  | x :: r, d, w, h, t, ht => by
    rw [wks_cons] at h
    by_cases h0 : (wk x d w).2 = 0
    · rw [if_pos h0] at h
      rcases List.mem_cons.1 ht with rfl | ht
      · exact ⟨w, h0⟩
      · exact wks_mem h t ht
    · rw [if_neg h0] at h; exact absurd h h0
theorem forms_of {its : List T} (h : ∀ t ∈ its, form t = true) : forms its = true := by
  induction its with
  | nil => exact forms_nil
  | cons t r ih => rw [forms_cons, h t (List.mem_cons_self ..), ih fun x hx => h x (List.mem_cons_of_mem _ hx)]; rfl
/-- What a good look says of the item. -/
theorem wk_ok {l : Bool} {bs : List Int} {its : List T} {d w : Nat} (h : (wk (.mk l bs its) d w).2 = 0) : (l = true → d < 8) ∧ wrongForm l bs its = false ∧ w + wt l bs d ≤ 16777215 ∧ wk (.mk l bs its) d w = wks its (d + 1) (w + wt l bs d) := by
  rw [wk_eq] at h ⊢
  by_cases h1 : (l && decide (8 ≤ d)) = true
  · rw [if_pos h1] at h; cases h
  · rw [if_neg h1] at h ⊢
    by_cases h2 : wrongForm l bs its = true
    · rw [if_pos h2] at h; cases h
    · rw [if_neg h2] at h ⊢
      by_cases h3 : 16777215 < w + wt l bs d
      · rw [if_pos h3] at h; cases h
      · rw [if_neg h3] at h ⊢
        refine ⟨fun hl => ?_, by simpa using h2, by omega, rfl⟩
        subst hl
        simp at h1
        omega
theorem wrong_false {l : Bool} {bs : List Int} {its : List T} (h : wrongForm l bs its = false) : (if l then bs.isEmpty else its.isEmpty) = true := by
  cases l with
  | true => cases bs <;> simp_all [wrongForm]
  | false => cases its <;> simp_all [wrongForm]
theorem wk_form : ∀ t, ∀ d w, (wk t d w).2 = 0 → form t = true := by
  refine T.ind fun l bs its ih d w h => ?_
  obtain ⟨_, h2, _, h4⟩ := wk_ok h
  rw [h4] at h
  rw [form_eq, wrong_false h2, Bool.true_and]
  exact forms_of fun t ht => let ⟨w', hw⟩ := wks_mem h t ht; ih t ht _ _ hw
/-- The weights bound the sizes. -/
theorem wks_le {its : List T} (ih : ∀ t ∈ its, ∀ d w, 0 < d → (wk t d w).2 = 0 → w ≤ (wk t d w).1 ∧ (wk t d w).1 ≤ 16777215 + w ∧ sz t ≤ 10 * ((wk t d w).1 - w) ∧ (w ≤ 16777215 → (wk t d w).1 ≤ 16777215)) :
    ∀ d w, 0 < d → (wks its d w).2 = 0 → w ≤ (wks its d w).1 ∧ szs its ≤ 10 * ((wks its d w).1 - w) ∧ (w ≤ 16777215 → (wks its d w).1 ≤ 16777215) := by
  induction its with
  | nil => intro d w _ _; rw [wks_nil, szs_nil]; exact ⟨Nat.le_refl _, by simp, fun h => h⟩
  | cons t r ihr =>
    intro d w hd h
    rw [wks_cons] at h ⊢
    by_cases h0 : (wk t d w).2 = 0
    · rw [if_pos h0] at h ⊢
      obtain ⟨a1, _, a2, a3⟩ := ih t (List.mem_cons_self ..) d w hd h0
      obtain ⟨b1, b2, b3⟩ := ihr (fun x hx => ih x (List.mem_cons_of_mem _ hx)) d _ hd h
      rw [szs_cons]
      exact ⟨by omega, by omega, fun hw => b3 (a3 hw)⟩
    · rw [if_neg h0] at h; exact absurd h h0
theorem wt_pos {l : Bool} {bs : List Int} {d : Nat} (h : 0 < d) : wt l bs d = max bs.length 1 := by
  unfold wt
  rw [if_neg]
  simp
  omega
theorem szOf_le (l : Bool) (bs : List Int) (n : Nat) (h : n < 4294967296) : szOf l bs n ≤ n + 5 := by
  unfold szOf
  split
  · omega
  · split
    · have := nb_le h; omega
    · omega
theorem wk_le : ∀ t, ∀ d w, 0 < d → (wk t d w).2 = 0 → w ≤ (wk t d w).1 ∧ (wk t d w).1 ≤ 16777215 + w ∧ sz t ≤ 10 * ((wk t d w).1 - w) ∧ (w ≤ 16777215 → (wk t d w).1 ≤ 16777215) := by
  refine T.ind fun l bs its ih d w hd h => ?_
  obtain ⟨_, h2, h3, h4⟩ := wk_ok h
  rw [h4] at h ⊢
  obtain ⟨b1, b2, b3⟩ := wks_le ih (d + 1) _ (by omega) h
  have b4 := b3 h3
  rw [wt_pos hd] at *
  have hf := wrong_false h2
  rw [sz_eq]
  cases l with
  | true =>
    have : bs = [] := by simpa using hf
    subst this
    have hx : (([] : List Int).length + szs its) = szs its := by simp
    rw [hx]
    have hl : max ([] : List Int).length 1 = 1 := by simp
    rw [hl] at b1 b2 b3 b4 h3 ⊢
    have := szOf_le true [] (szs its) (by omega)
    exact ⟨by omega, by omega, by omega, fun _ => b4⟩
  | false =>
    have : its = [] := by simpa using hf
    subst this
    rw [szs_nil]
    have := szOf_le false bs bs.length (by omega)
    rw [wks_nil] at *
    exact ⟨by show w ≤ w + _; omega, by show w + _ ≤ _; omega, by show szOf false bs bs.length ≤ 10 * (w + max bs.length 1 - w); omega, fun _ => h3⟩
theorem wks_append : ∀ (a b : List T) (d w : Nat), wks (a ++ b) d w = if (wks a d w).2 = 0 then wks b d (wks a d w).1 else wks a d w
  | [], b, d, w => by rw [wks_nil]; rfl
  | t :: r, b, d, w => by
    rw [List.cons_append, wks_cons, wks_cons]
    by_cases h : (wk t d w).2 = 0
    · rw [if_pos h, if_pos h, wks_append r b]
    · rw [if_neg h, if_neg h, if_neg h]
theorem take_succ_get {α : Type} {l : List α} {k : Nat} {t : α} (h : l[k]? = some t) : l.take (k + 1) = l.take k ++ [t] := by
  rw [List.take_add_one, h]; rfl
theorem split_get {α : Type} {l : List α} {k : Nat} {t : α} (h : l[k]? = some t) : l = l.take k ++ t :: l.drop (k + 1) := by
  obtain ⟨hk, e⟩ := List.getElem?_eq_some_iff.1 h
  rw [← e]
  simp
/-- One thing more. -/
theorem wks_more {its : List T} {k d w W : Nat} {t : T} (h : its[k]? = some t) (h0 : wks (its.take k) d w = (W, 0)) (h1 : (wk t d W).2 = 0) : wks (its.take (k + 1)) d w = ((wk t d W).1, 0) := by
  rw [take_succ_get h, wks_append, h0, if_pos rfl, wks_cons, if_pos h1, wks_nil]
theorem wks_fail {its : List T} {k d w W : Nat} {t : T} (h : its[k]? = some t) (h0 : wks (its.take k) d w = (W, 0)) (h1 : (wk t d W).2 ≠ 0) : wks its d w = wk t d W := by
  rw [split_get h, wks_append, h0, if_pos rfl, wks_cons, if_neg h1]
theorem szs_more {its : List T} {k : Nat} {t : T} (h : its[k]? = some t) : szs (its.take (k + 1)) = szs (its.take k) + sz t := by
  rw [take_succ_get h, szs_append, szs_cons, szs_nil]
  rfl
/-- What goes before a good look of some things is bounded. -/
theorem wks_bound {its : List T} {d w W : Nat} (hd : 0 < d) (hw : w ≤ 16777215) (h : wks its d w = (W, 0)) : w ≤ W ∧ W ≤ 16777215 ∧ szs its ≤ 10 * (W - w) := by
  obtain ⟨h1, h2, h3⟩ := wks_le (its := its) (fun t _ => wk_le t) d w hd (by rw [h])
  rw [h] at h1 h2 h3
  exact ⟨h1, h3 hw, h2⟩
theorem wk_bound {t : T} {d w : Nat} (hd : 0 < d) (hw : w ≤ 16777215) (h : (wk t d w).2 = 0) : w ≤ (wk t d w).1 ∧ (wk t d w).1 ≤ 16777215 ∧ sz t ≤ 10 * ((wk t d w).1 - w) := by
  obtain ⟨h1, _, h2, h3⟩ := wk_le t d w hd h
  exact ⟨h1, h3 hw, h2⟩
theorem szOf_ge (l : Bool) (bs : List Int) (n : Nat) : n ≤ szOf l bs n := by unfold szOf; split <;> omega
theorem sz_szb (t : T) : sz t = szOf t.l t.bs (szb t) := by
  cases t with
  | mk l bs its => exact sz_eq l bs its
end Go.Proofs.Ytmofehloiiopfaa

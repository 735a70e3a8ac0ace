/- What the document's rot, word and Padded (pergolaref01) answer, for every input of at most 2^47 - 4096 bytes. -/
import Derived.Test.YtmofehloiiopfaaG12
import Derived.Laws.CopyOwn
import Derived.Laws.AppendOwnNone
import Derived.Deep.RegionHeld3
namespace Go.Proofs.Ytmofehloiiopfaa.Di
set_option maxRecDepth 100000
open Go.RowKit
/-- The word of k bytes from a place on. -/
def wd (bs : List Int) (at_ : Nat) : Nat → Int
  | 0 => 0
  | k + 1 => or8 (wd bs at_ k) (bs.getD (at_ + k) 0)
theorem B8_one2 (bs : List Int) : ∀ v ∈ bs.map (Value.int .u8), v.oneCell' = true := by
  intro v hv
  obtain ⟨x, _, rfl⟩ := List.mem_map.1 hv
  rfl
/-- A slice of bytes of the call's own, from block 'base' on. -/
def OwnB (w : World) (base : Nat) (v : Value) (bs : List Int) : Prop := w.ownsRow base 5 1 v bs.length (bs.map (Value.int .u8))
theorem info5 : ∃ i, Try.prog.info? 5 = some i ∧ i.zero = some (.int .u8 0) ∧ i.size = 1 ∧ i.bytes = 1 := by
  have h : (Try.prog.info? 5).map (fun i => (i.zero, i.size, i.bytes)) = some (some (.int .u8 0), 1, 1) := by kernel_rfl
  cases hq : Try.prog.info? 5 with
  | none => rw [hq] at h; simp at h
  | some i => rw [hq] at h; simp at h; exact ⟨i, rfl, h.1, h.2.1, h.2.2⟩
theorem app_own {w : World} {ops : Array Oper} {rest : List Oper} {o : Oper} {a : Act} {Q : Exit → Act → World → Prop} (hgd : o.guard = none) (s x : Operand)
    (ho : o.op = .call { callee := .builtin .append, args := #[s, x], argTypes := #[24, 24] }) (base : Nat) (v : Value) (bs : List Int) (hs : a.eval s = v) (hown : OwnB w base v bs)
    (ad : Addr) (m c : Nat) (news : List Int) (hx : a.eval x = .slice (some ad) m c) (hl : news.length = m) (hnews : ∀ j u, (news.map (Value.int .u8))[j]? = some u → w.cell? (ad.add j) = some u)
    (hbytes : bs.length + m ≤ 140737488355328) (hbase : base ≤ w.heap.size)
    (h : ∀ v' w', OwnB w' base v' (bs ++ news) → w.grownBy w' v.ownBlock → (v' = .slice none 0 0 ↔ v = .slice none 0 0 ∧ m = 0) → wpList Try.prog ops Q rest (a.put o.dst v') w') : wpList Try.prog ops Q (o :: rest) a w := by
  obtain ⟨i, hi, hz, hsz, hby⟩ := info5
  refine wpList_append_own w hgd s x 24 ho base 5 i (.int .u8 0) 1 1 Try.underlying24 hi hz hsz hby rfl (by decide) v bs.length (bs.map (Value.int .u8)) hs hown ad m c (news.map (Value.int .u8)) hx (by simpa using hl) hnews (B8_one2 _) (by unfold maxLen; omega) (by omega) hbase ?_
  intro v' w' h1 h2 h3
  refine h v' w' ?_ h2 h3
  unfold OwnB
  rw [List.length_append, hl, List.map_append]
  exact h1
theorem app_none {w : World} {ops : Array Oper} {rest : List Oper} {o : Oper} {a : Act} {Q : Exit → Act → World → Prop} (hgd : o.guard = none) (s x : Operand)
    (ho : o.op = .call { callee := .builtin .append, args := #[s, x], argTypes := #[24, 24] }) (base : Nat) (v : Value) (bs : List Int) (hs : a.eval s = v) (hown : OwnB w base v bs)
    (hx : a.eval x = .slice none 0 0) (h : wpList Try.prog ops Q rest (a.put o.dst v) w) : wpList Try.prog ops Q (o :: rest) a w := by
  obtain ⟨i, hi, _, _, _⟩ := info5
  exact wpList_append_own_none hgd s x 24 ho base 5 i 1 Try.underlying24 hi v bs.length _ hs hown hx h
/-- Bytes that came in: nil, or a row of cells. -/
def InB (w : World) (a : Option Addr) (len cap : Nat) (bs : List Int) : Prop :=
  (a = none ∧ len = 0 ∧ cap = 0 ∧ bs = []) ∨ ∃ ad, a = some ad ∧ bs.length = len ∧ ∀ j u, (bs.map (Value.int .u8))[j]? = some u → w.cell? (ad.add j) = some u
def zc (n : Nat) : Nat := (55 - n % 32) % 32
def len8 (n : Nat) (k : Nat) : List Int := (List.range k).map fun i => (n : Int) / 2 ^ (56 - 8 * i) % 256
def padded (bs : List Int) : List Int := bs ++ [128] ++ List.replicate (zc bs.length) 0 ++ len8 bs.length 8
def lenOf : Value → Nat | .slice _ n _ => n | _ => 0
theorem OwnB.slice {w : World} {base : Nat} {v : Value} {bs : List Int} (h : OwnB w base v bs) (hne : 0 < bs.length) :
    ∃ g cap, v = .slice (some ⟨g, 0, none⟩) bs.length cap ∧ base ≤ g ∧ g < w.heap.size ∧ bs.length ≤ cap ∧ cap ≤ maxLen ∧ ∀ j, j < bs.length → w.cell? ⟨g, j, none⟩ = some (.int .u8 (bs.getD j 0)) := by
  obtain ⟨_, h2⟩ := h
  rcases h2 with ⟨_, h2⟩ | ⟨g, cap, cur, hv, hg, hh, hn, hcap, hsz, ht⟩
  · omega
  · refine ⟨g, cap, hv, hg, lt_of_get hh, hn, hcap, ?_⟩
    intro j hj
    rw [cell_of_row w g j _ _ _ hh]
    have e : (cur.toList.take (bs.length * 1))[j]? = (bs.map (Value.int .u8))[j]? := by rw [ht]
    rw [List.getElem?_take_of_lt (by omega)] at e
    simp at e
    rw [e]
    simp [List.getElem?_eq_getElem hj]
theorem OwnB.lt {w : World} {base : Nat} {v : Value} {bs : List Int} (h : OwnB w base v bs) : ∀ k, v.ownBlock = some k → base ≤ k := fun k hk => (World.ownsRow.lt h k hk).1
end Go.Proofs.Ytmofehloiiopfaa.Di
/- What the document's digest (pergolaref01.Of) answers: the pieces of the padded text mixed in, one behind the other, for every text of at most 2^47 - 4096 bytes. -/
namespace Go.Proofs.Ytmofehloiiopfaa.Di
set_option maxRecDepth 100000
open Go.RowKit
/-- The words of the piece that begins at a place. -/
def wordsAt (bs : List Int) (p : Nat) : S4 := ⟨wd bs p 8, wd bs (p + 8) 8, wd bs (p + 16) 8, wd bs (p + 24) 8⟩
def s0 : S4 := ⟨kk, wr (2 * kk), wr (3 * kk), wr (4 * kk)⟩
/-- The state behind i pieces. -/
def stOf (bs : List Int) : Nat → S4
  | 0 => s0
  | i + 1 => mix (stOf bs i) (wordsAt bs (32 * i))
def mAt (m : S4) (k : Nat) : Int := if k % 4 = 0 then m.a else if k % 4 = 1 then m.b else if k % 4 = 2 then m.c else m.d
/-- The words behind k rounds. -/
def rk (s m : S4) : Nat → S4
  | 0 => xor4 s m
  | k + 1 => rnd (rk s m k) (wr (mAt m k + wr ((k + 1 : Nat) * kk)))
/-- What stands while the pieces are mixed: the result's block, the padded text's cells, the state's row. -/
structure OfW (N gt gs : Nat) (w0 w : World) (ps : List Int) (S : S4) : Prop where
  h0 : w.heap[N]? = some (.cells (B8 (List.replicate 32 0)) 56)
  ht : ∀ j, j < ps.length → w.cell? ⟨gt, j, none⟩ = some (.int .u8 (ps.getD j 0))
  hs : w.heap[gs]? = some (.cells (V4 S) 22)
  gtl : gt < w.heap.size
  gsl : N < gs
  bel : Below N w0 w
structure OfM (N gt gs gp gm : Nat) (w0 w : World) (ps : List Int) (S M : S4) : Prop where
  f : OfW N gt gs w0 w ps S
  hm : w.heap[gm]? = some (.cells (V4 M) 22)
  p0 : w.cell? ⟨gp, 0, none⟩ = some (.int .u64 S.a)
  p1 : w.cell? ⟨gp, 1, none⟩ = some (.int .u64 S.b)
  p2 : w.cell? ⟨gp, 2, none⟩ = some (.int .u64 S.c)
  p3 : w.cell? ⟨gp, 3, none⟩ = some (.int .u64 S.d)
theorem gen_w {V : World} {p q : World → Prop} (F : q V) (h : ∀ v, q v → p v) : p V := h V F
def kx (k : Nat) : Int := wr ((k : Int) * kk)
structure Ex (N gs go : Nat) (w0 w : World) (sa sb sc sd : Int) (ds : List Int) : Prop where
  h0 : w.heap[N]? = some (.cells (B8 (List.replicate 32 0)) 56)
  hs : w.heap[gs]? = some (.cells (V4 ⟨sa, sb, sc, sd⟩) 22)
  ho : w.heap[go]? = some (.cells (B8 ds) 56)
  bel : Below N w0 w
end Go.Proofs.Ytmofehloiiopfaa.Di
/- What digest.start answers, what Write of nothing does to a new Hash, and what digest.Of answers of nothing. -/
namespace Go.Proofs.Ytmofehloiiopfaa.Di
set_option maxRecDepth 100000
open Go.RowKit
/-- Of's blocks: the result, the Hash. -/
structure OfH (N g : Nat) (w0 w : World) (s : S4) (tl : List Int) (n : Nat) : Prop where
  h0 : w.heap[N]? = some (.cells (B8 (List.replicate 32 0)) 56)
  hg : w.heap[g]? = some (.cells (HC s tl n) 78)
  bel : Below N w0 w
  lt : N < g
end Go.Proofs.Ytmofehloiiopfaa.Di

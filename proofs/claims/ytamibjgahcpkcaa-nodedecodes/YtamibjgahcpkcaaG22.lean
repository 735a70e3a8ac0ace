/- Rows of items of which the last may lie in memory that is not the call's own. -/
import Derived.Test.YtamibjgahcpkcaaG21
import Derived.Test.YtamibjgahcpkcaaG18
import Derived.Test.YtamibjgahcpkcaaG19
import Derived.Test.YtamibjgahcpkcaaG09
import Derived.Test.YtamibjgahcpkcaaG10
import Derived.Deep.CutRange
namespace Go.Proofs.Ytamibjgahcpkcaa
open Go.RowKit
set_option linter.unusedVariables false
set_option maxRecDepth 100000
/-- Things and their values, one by one, wherever they lie. -/
def AllL (w : World) : List T → List V → Prop
  | [], [] => True
  | t :: ts, y :: ys => Lies w t y ∧ AllL w ts ys
  | _, _ => False
theorem AllL.len {w : World} : ∀ {ts : List T} {ys : List V}, AllL w ts ys → ts.length = ys.length
  | [], [], _ => rfl
  | t :: ts, y :: ys, h => by have := AllL.len h.2; simp [this]
theorem AllP.lies {P : Nat → Prop} {w : World} : ∀ {ts : List T} {ys : List V}, AllP P w ts ys → AllL w ts ys
  | [], [], _ => trivial
  | t :: ts, y :: ys, h => ⟨liesP_lies t y h.1, AllP.lies h.2⟩
theorem AllL.snoc {w : World} {t : T} {y : V} (h1 : Lies w t y) : ∀ {ts : List T} {ys : List V}, AllL w ts ys → AllL w (ts ++ [t]) (ys ++ [y])
  | [], [], _ => ⟨h1, trivial⟩
  | _ :: ts, _ :: ys, h => ⟨h.1, AllL.snoc h1 h.2⟩
theorem rowL_lies {w : World} {g : Nat} {all : List V} (hc : ∀ j u, (all.flatMap V.cells)[j]? = some u → w.cell? ((⟨g, 0, none⟩ : Addr).add j) = some u) :
    ∀ (ts : List T) (ys pre : List V), all = pre ++ ys → AllL w ts ys → LiesAll w ts (some ⟨g, 0, none⟩) pre.length
  | [], [], pre, _, _ => liesAll_nil
  | t :: ts, y :: ys, pre, e, h => by
    have hr := rowL_lies hc ts ys (pre ++ [y]) (by rw [e]; simp) h.2
    rw [List.length_append] at hr
    refine liesAll_cons.2 ⟨⟨g, 0, y, rfl, ?_, ?_, ?_, h.1⟩, hr⟩
    · have := hc (pre.length * 3 + 0) (.bool y.l) (by rw [e]; exact flat_get pre y ys 0 _ rfl)
      rw [addr_add] at this
      simpa using this
    · have := hc (pre.length * 3 + 1) (.slice y.ba y.bn y.bc) (by rw [e]; exact flat_get pre y ys 1 _ rfl)
      rw [addr_add] at this
      rw [show 0 + pre.length * 3 + 1 = 0 + (pre.length * 3 + 1) from by omega]
      exact this
    · have := hc (pre.length * 3 + 2) (.slice y.ia y.m y.ic) (by rw [e]; exact flat_get pre y ys 2 _ rfl)
      rw [addr_add] at this
      rw [show 0 + pre.length * 3 + 2 = 0 + (pre.length * 3 + 2) from by omega]
      exact this
theorem ownL_lies {w : World} {base : Nat} {v : Value} {ys : List V} {ts : List T} (hown : OwnI w base v ys) (h : AllL w ts ys) :
    ∃ ia ic, v = .slice ia ts.length ic ∧ ts.length ≤ ic ∧ ic ≤ maxLen ∧ LiesAll w ts ia 0 := by
  have hl := h.len
  rcases hown.2 with ⟨rfl, hn0⟩ | ⟨g, cap, cur, rfl, hbg, hg, hnc, hcm, hcs, htake⟩
  · have : ts = [] := List.eq_nil_of_length_eq_zero (by omega)
    subst this
    exact ⟨none, 0, rfl, Nat.le_refl _, by unfold maxLen; omega, liesAll_nil⟩
  · exact ⟨some ⟨g, 0, none⟩, cap, by rw [hl], by omega, hcm, rowL_lies (World.ownsRow.cells hown (g := g) rfl) ts ys [] rfl h⟩
/-- The last item of the row is appended; then the box in front of the row's memory is written. -/
theorem round_last {w0 w wr w1 : World} {it : Value} {ys : List V} {ts : List T} {y : V} {t : T} (hb0 : Below w0.heap.size w0 w) (hown : OwnI wr w.heap.size it ys) (hall : AllP (fun b => w.heap.size ≤ b ∧ it.ownBlock ≠ some b) wr ts ys) (hbel : Below w.heap.size w wr) (hb1 : Below wr.heap.size wr w1)
    (hy : Lies w0 t y) (hlen : ys.length ≤ 1000000000) (ty : TypeId) :
    ∃ v' w3, (Builtin.append_ #[47, 47] ty #[it, .slice (some ⟨w1.heap.size, 0, none⟩) 1 1]).run Try.prog (w1.alloc (.cells #[.bool y.l, .slice y.ba y.bn y.bc, .slice y.ia y.m y.ic] 49)) = .ok v' w3 ∧
      Below w.heap.size w w3 ∧ w1.heap.size ≤ w3.heap.size ∧
      ∃ ia ic, v' = .slice ia (ts.length + 1) ic ∧ ts.length + 1 ≤ ic ∧ ic ≤ maxLen ∧ ∀ w4, w3.heap.size ≤ w4.heap.size → (∀ b, w.heap.size ≤ b → b < w3.heap.size → w4.heap[b]? = w3.heap[b]?) → Below w0.heap.size w0 w4 → LiesAll w4 (ts ++ [t]) ia 0 := by
  obtain ⟨Y, hY⟩ : ∃ Y : Obj, Obj.cells #[.bool y.l, .slice y.ba y.bn y.bc, .slice y.ia y.m y.ic] 49 = Y := ⟨_, rfl⟩
  rw [hY]
  have hs2 : (w1.alloc Y).heap.size = w1.heap.size + 1 := by simp
  have hb2 : Below wr.heap.size wr (w1.alloc Y) := hb1.alloc hb1.size _
  have hz := hbel.size
  have hz1 := hb1.size
  have hblk : (w1.alloc Y).heap[w1.heap.size]? = some Y := heap_alloc_new w1 Y
  have hnews : ∀ j u, (V.cells y)[j]? = some u → (w1.alloc Y).cell? ((⟨w1.heap.size, 0, none⟩ : Addr).add j) = some u := by
    intro j u hu
    rw [addr_add, Nat.zero_add]
    rw [← hY] at hblk ⊢
    rw [cell_of_row _ _ _ _ _ _ hblk]
    simpa [V.cells] using hu
  obtain ⟨v', w3, hrun, hown3, hgr, hown4⟩ := app_item (own_keep hown fun g _ hg => hb2.block g hg) y _ 1 hnews (by omega) hlen ty
  have hfar : ∀ b, b < w1.heap.size + 1 → it.ownBlock ≠ some b → w3.heap[b]? = (w1.alloc Y).heap[b]? := fun b hb hne => hgr.block b (by rw [hs2]; exact hb) (fun h => hne h.symm)
  have hz3 : w1.heap.size ≤ w3.heap.size := by have := hgr.size; omega
  have hB3 : Below w.heap.size w w3 := by
    refine hbel.trans ⟨hgr.os.trans hb2.os, hgr.tape.trans hb2.tape, hgr.output.trans hb2.output, Nat.le_trans hb2.size hgr.size, fun b hb => ?_⟩
    rw [hfar b (by omega) (fun h => by have := (own_lt hown h).1; omega)]
    exact hb2.block b (by omega)
  have hall3 : AllP (fun b => w.heap.size ≤ b) w3 ts ys := hall.mono fun b hb hlt => ⟨by rw [hfar b (by omega) hb.2]; exact hb2.block b hlt, hb.1⟩
  refine ⟨v', w3, hrun, hB3, hz3, ?_⟩
  have key : ∀ w4, w3.heap.size ≤ w4.heap.size → (∀ b, w.heap.size ≤ b → b < w3.heap.size → w4.heap[b]? = w3.heap[b]?) → Below w0.heap.size w0 w4 → ∃ ia ic, v' = .slice ia (ts ++ [t]).length ic ∧ (ts ++ [t]).length ≤ ic ∧ ic ≤ maxLen ∧ LiesAll w4 (ts ++ [t]) ia 0 := fun w4 h1 h2 h3 =>
    ownL_lies (own_keep hown3 fun g hg hlt => h2 g (own_lt hown3 hg).1 hlt) (AllL.snoc (lies_mono h3 t y hy) (AllP.lies (P := fun b => w.heap.size ≤ b) (hall3.mono fun b hb hlt => ⟨h2 b hb hlt, hb⟩)))
  obtain ⟨ia, ic, e1, e2, e3, _⟩ := key w3 (Nat.le_refl _) (fun _ _ _ => rfl) (below_go hb0 hB3)
  rw [List.length_append] at e1 e2
  refine ⟨ia, ic, e1, e2, e3, fun w4 h1 h2 h3 => ?_⟩
  obtain ⟨ia', ic', e1', _, _, hl⟩ := key w4 h1 h2 h3
  rw [e1, List.length_append] at e1'
  injection e1' with q1 q2 q3
  rw [q1]
  exact hl
end Go.Proofs.Ytamibjgahcpkcaa
/- Rows of items that grow while a box in front of them is written: what the document's Encode goes through. -/
namespace Go.Proofs.Ytamibjgahcpkcaa
open Go.RowKit
set_option linter.unusedVariables false
set_option maxRecDepth 100000
/-- The world with its first blocks alone. -/
def trunc (base : Nat) (w : World) : World := { w with heap := w.heap.take base }
theorem trunc_size {base : Nat} {w : World} (h : base ≤ w.heap.size) : (trunc base w).heap.size = base := by
  show (w.heap.take base).size = base
  simp
  omega
theorem trunc_block {base : Nat} {w : World} {k : Nat} (h : k < base) : (trunc base w).heap[k]? = w.heap[k]? := by
  show (w.heap.take base)[k]? = w.heap[k]?
  rw [Array.take_eq_extract, Array.getElem?_extract]
  by_cases hk : k < w.heap.size
  · rw [if_pos (by omega), Nat.zero_add]
  · rw [if_neg (by omega), Array.getElem?_eq_none (by omega)]
theorem trunc_below {base : Nat} {w : World} (h : base ≤ w.heap.size) : Below base (trunc base w) w := ⟨rfl, rfl, rfl, by rw [trunc_size h]; exact h, fun k hk => (trunc_block hk).symm⟩
theorem below_trunc {base : Nat} {w w' : World} (h : base ≤ w.heap.size) (hz : w.heap.size ≤ w'.heap.size) (hb : Below base (trunc base w) w') : Below base w w' := ⟨hb.os, hb.tape, hb.output, hz, fun k hk => (hb.block k hk).trans (trunc_block hk)⟩
theorem round_oneB {base : Nat} {wr w1 : World} {it : Value} {ys : List V} {ts : List T} {y : V} {t : T} (hz : base ≤ wr.heap.size) (hown : OwnI wr base it ys) (hall : AllP (fun b => base ≤ b ∧ it.ownBlock ≠ some b) wr ts ys) (hb1 : Below wr.heap.size wr w1)
    (hy : LiesP (fun b => wr.heap.size ≤ b) w1 t y) (hlen : ys.length ≤ 1000000000) (ty : TypeId) :
    ∃ v' w3, (Builtin.append_ #[47, 47] ty #[it, .slice (some ⟨w1.heap.size, 0, none⟩) 1 1]).run Try.prog (w1.alloc (.cells #[.bool y.l, .slice y.ba y.bn y.bc, .slice y.ia y.m y.ic] 49)) = .ok v' w3 ∧
      OwnI w3 base v' (ys ++ [y]) ∧ AllP (fun b => base ≤ b ∧ v'.ownBlock ≠ some b) w3 (ts ++ [t]) (ys ++ [y]) ∧ Below base wr w3 := by
  have hs := trunc_size hz
  obtain ⟨v', w3, h1, h2, h3, h4, _, h6⟩ := round_one (w := trunc base wr) (wr := wr) (w1 := w1) (by rw [hs]; exact hown) (by rw [hs]; exact hall) (by rw [hs]; exact trunc_below hz) hb1 hy hlen ty
  rw [hs] at h2 h3 h4
  exact ⟨v', w3, h1, h2, h3, below_trunc hz (by have := hb1.size; omega) h4⟩
theorem round_lastB {base : Nat} {w0 wr w1 : World} {it : Value} {ys : List V} {ts : List T} {y : V} {t : T} (hz0 : w0.heap.size ≤ base) (hb0 : Below w0.heap.size w0 wr) (hz : base ≤ wr.heap.size) (hown : OwnI wr base it ys) (hall : AllP (fun b => base ≤ b ∧ it.ownBlock ≠ some b) wr ts ys) (hb1 : Below wr.heap.size wr w1)
    (hy : Lies w0 t y) (hlen : ys.length ≤ 1000000000) (ty : TypeId) :
    ∃ v' w3, (Builtin.append_ #[47, 47] ty #[it, .slice (some ⟨w1.heap.size, 0, none⟩) 1 1]).run Try.prog (w1.alloc (.cells #[.bool y.l, .slice y.ba y.bn y.bc, .slice y.ia y.m y.ic] 49)) = .ok v' w3 ∧
      Below base wr w3 ∧
      ∃ ia ic, v' = .slice ia (ts.length + 1) ic ∧ ts.length + 1 ≤ ic ∧ ic ≤ maxLen ∧ ∀ w4, w3.heap.size ≤ w4.heap.size → (∀ b, base ≤ b → b < w3.heap.size → w4.heap[b]? = w3.heap[b]?) → Below w0.heap.size w0 w4 → LiesAll w4 (ts ++ [t]) ia 0 := by
  have hs := trunc_size hz
  have hb0' : Below w0.heap.size w0 (trunc base wr) := ⟨hb0.os, hb0.tape, hb0.output, by rw [hs]; exact hz0, fun k hk => (trunc_block (by omega)).trans (hb0.block k hk)⟩
  obtain ⟨v', w3, h1, h2, h3, h4⟩ := round_last (w := trunc base wr) (wr := wr) (w1 := w1) hb0' (by rw [hs]; exact hown) (by rw [hs]; exact hall) (by rw [hs]; exact trunc_below hz) hb1 hy hlen ty
  rw [hs] at h2 h4
  exact ⟨v', w3, h1, below_trunc hz (by have := hb1.size; omega) h2, h4⟩
/-- The node's box, and the item's box with the list so far. -/
structure En (w v : World) (x : NV) (gI : Nat) (it : Value) : Prop where
  row : v.heap[gI]? = some (.cells #[.bool true, .slice none 0 0, it] 49)
  bx : NBx w.heap.size v x
  bel : Below w.heap.size w v
  gi : w.heap.size < gI
  sz : gI + 1 ≤ v.heap.size
theorem En.go {w v v' : World} {x : NV} {gI : Nat} {it : Value} (h : En w v x gI it) (hb : Below (gI + 1) v v') : En w v' x gI it :=
  ⟨(hb.block gI (by omega)).trans h.row, ⟨(hb.block _ (by have := h.gi; omega)).trans h.bx.row, h.bx.l⟩,
    ⟨hb.os.trans h.bel.os, hb.tape.trans h.bel.tape, hb.output.trans h.bel.output, Nat.le_trans h.bel.size hb.size, fun k hk => (hb.block k (by have := h.gi; omega)).trans (h.bel.block k hk)⟩, h.gi, Nat.le_trans h.sz hb.size⟩
theorem En.all {w v v' : World} {x : NV} {gI : Nat} {it : Value} (h : En w v x gI it) (hb : Below v.heap.size v v') : En w v' x gI it := h.go ⟨hb.os, hb.tape, hb.output, hb.size, fun k hk => hb.block k (by have := h.sz; omega)⟩
theorem En.c0 {w v : World} {x : NV} {gI : Nat} {it : Value} (h : En w v x gI it) : v.cell? ⟨gI, 0, none⟩ = some (.bool true) := by rw [cell_of_row _ _ _ _ _ _ h.row]; rfl
theorem En.c1 {w v : World} {x : NV} {gI : Nat} {it : Value} (h : En w v x gI it) : v.cell? ⟨gI, 1, none⟩ = some (.slice none 0 0) := by rw [cell_of_row _ _ _ _ _ _ h.row]; rfl
theorem En.c2 {w v : World} {x : NV} {gI : Nat} {it : Value} (h : En w v x gI it) : v.cell? ⟨gI, 2, none⟩ = some it := by rw [cell_of_row _ _ _ _ _ _ h.row]; rfl
theorem En.fz {w v : World} {x : NV} {gI : Nat} {it : Value} (h : En w v x gI it) : ∀ o, v.frozen? ⟨gI, o, none⟩ = false := fun o => frozen_of_row _ _ _ _ _ h.row
theorem En.put {w v : World} {x : NV} {gI : Nat} {it : Value} (h : En w v x gI it) (it' : Value) : En w (v.setCell ⟨gI, 2, none⟩ it') x gI it' := by
  refine ⟨?_, ⟨(heap_setCell_other _ _ _ _ (by show w.heap.size ≠ gI; have := h.gi; omega)).trans h.bx.row, h.bx.l⟩, h.bel.setCell (by have := h.gi; show w.heap.size ≤ gI; omega) it', h.gi, by simpa using h.sz⟩
  have := heap_setCell_same v gI 2 _ 49 it' h.row
  rw [this]
  rfl
/-- The list so far, in memory behind the box. -/
def So (gI : Nat) (v : World) (it : Value) (ts : List T) : Prop := ∃ ys : List V, OwnI v (gI + 1) it ys ∧ AllP (fun b => gI + 1 ≤ b ∧ it.ownBlock ≠ some b) v ts ys
theorem So.put {gI : Nat} {v : World} {it : Value} {ts : List T} (h : So gI v it ts) (u : Value) : So gI (v.setCell ⟨gI, 2, none⟩ u) it ts := by
  obtain ⟨ys, h1, h2⟩ := h
  exact ⟨ys, own_keep h1 fun g hg _ => heap_setCell_other _ _ _ _ (by have := (own_lt h1 hg).1; show g ≠ gI; omega), h2.mono fun b hb _ => ⟨heap_setCell_other _ _ _ _ (by show b ≠ gI; omega), hb⟩⟩
theorem So.all {gI : Nat} {v v' : World} {it : Value} {ts : List T} (h : So gI v it ts) (hb : Below v.heap.size v v') : So gI v' it ts := by
  obtain ⟨ys, h1, h2⟩ := h
  exact ⟨ys, own_keep h1 fun g _ hlt => hb.block g hlt, h2.mono fun b hb' hlt => ⟨hb.block b hlt, hb'⟩⟩
theorem so_nil (gI : Nat) (v : World) : So gI v (.slice none 0 0) [] := ⟨[], World.ownsRow_nil _ _ _ _, trivial⟩
theorem so_one {gI : Nat} {wr w1 : World} {it : Value} {ts : List T} {y : V} {t : T} (hz : gI + 1 ≤ wr.heap.size) (h : So gI wr it ts) (hb1 : Below wr.heap.size wr w1) (hy : LiesP (fun b => wr.heap.size ≤ b) w1 t y) (hlen : ts.length ≤ 1000) (ty : TypeId) :
    ∃ v' w3, (Builtin.append_ #[47, 47] ty #[it, .slice (some ⟨w1.heap.size, 0, none⟩) 1 1]).run Try.prog (w1.alloc (.cells #[.bool y.l, .slice y.ba y.bn y.bc, .slice y.ia y.m y.ic] 49)) = .ok v' w3 ∧ So gI w3 v' (ts ++ [t]) ∧ Below (gI + 1) wr w3 := by
  obtain ⟨ys, h1, h2⟩ := h
  obtain ⟨v', w3, e1, e2, e3, e4⟩ := round_oneB hz h1 h2 hb1 hy (by have := h2.len; omega) ty
  exact ⟨v', w3, e1, ⟨_, e2, e3⟩, e4⟩
/-- What the list is at its end. -/
def Full (gI : Nat) (w v : World) (it : Value) (ts : List T) : Prop := ∃ ia ic, it = .slice ia ts.length ic ∧ ts.length ≤ ic ∧ ic ≤ maxLen ∧ LiesAll v ts ia 0
theorem So.full {gI : Nat} {w v : World} {it : Value} {ts : List T} (h : So gI v it ts) : Full gI w v it ts := by
  obtain ⟨ys, h1, h2⟩ := h
  exact ownL_lies h1 h2.lies
theorem so_last {gI : Nat} {w wr w1 : World} {x : NV} {it : Value} {ts : List T} {y : V} {t : T} (hE : En w wr x gI it) (h : So gI wr it ts) (hb1 : Below wr.heap.size wr w1) (hy : Lies w t y) (hlen : ts.length ≤ 1000) (ty : TypeId) :
    ∃ v' w3, (Builtin.append_ #[47, 47] ty #[it, .slice (some ⟨w1.heap.size, 0, none⟩) 1 1]).run Try.prog (w1.alloc (.cells #[.bool y.l, .slice y.ba y.bn y.bc, .slice y.ia y.m y.ic] 49)) = .ok v' w3 ∧ Below (gI + 1) wr w3 ∧ Full gI w (w3.setCell ⟨gI, 2, none⟩ v') v' (ts ++ [t]) := by
  obtain ⟨ys, h1, h2⟩ := h
  obtain ⟨v', w3, e1, e2, ia, ic, e3, e4, e5, e6⟩ := round_lastB (base := gI + 1) (by have := hE.gi; omega) hE.bel hE.sz h1 h2 hb1 hy (by have := h2.len; omega) ty
  refine ⟨v', w3, e1, e2, ia, ic, by rw [List.length_append]; exact e3, by rw [List.length_append]; exact e4, e5, e6 _ (by simp) (fun b hb _ => heap_setCell_other _ _ _ _ (by show b ≠ gI; omega)) ((hE.go e2).put v').bel⟩
end Go.Proofs.Ytamibjgahcpkcaa
/- What the document's reader answers: copied, and first for bytes that are no list. -/
namespace Go.Proofs.Ytamibjgahcpkcaa
open Go.RowKit
set_option linter.unusedVariables false
set_option maxRecDepth 100000
theorem ownB_nil (w : World) (base : Nat) : OwnB w base (.slice none 0 0) [] := ⟨rfl, .inl ⟨rfl, rfl⟩⟩
theorem ownB_block {w : World} {base : Nat} {a : Option Addr} {n c : Nat} {bs : List Int} (h : OwnB w base (.slice a n c) bs) : ∀ g off, a = some ⟨g, off, none⟩ → base ≤ g ∧ ∀ o, w.frozen? ⟨g, o, none⟩ = false := by
  intro g off e
  subst e
  refine ⟨h.lt g rfl, fun o => ?_⟩
  rcases h.2 with ⟨h2, _⟩ | ⟨g', cap, cur, hv, _, hh, _⟩
  · cases h2
  · injection hv with e1 _ _
    cases e1
    exact frozen_of_row _ _ _ _ _ hh
theorem copied_any (a : Option Addr) (n c : Nat) (b : List Int) (w : World) (h : Ag w a n c b) (hn : n ≤ 140737488351232) :
    Calls Try.prog 90 #[.slice a n c] w fun e w' => (∃ a' c', e = .returned (.slice a' n c') ∧ Ag w' a' n c' b ∧ ∀ g off, a' = some ⟨g, off, none⟩ → w.heap.size ≤ g ∧ ∀ o, w'.frozen? ⟨g, o, none⟩ = false) ∧ Below w.heap.size w w' := by
  have HA := Hid.mk h
  clear h
  go_enter Try.func90, Try.ntmps90
  go_wp2_with (first | (at_builtin; refine app_any rfl (.tmp 4) (.tmp 5) rfl w.heap.size _ [] rfl (ownB_nil w _) a n c b rfl HA.out.i HA.out.nil HA.out.l (by simp; omega) (Nat.le_refl _) ?_; intro v1 w1 o1 hb1; rw [List.nil_append] at o1; obtain ⟨a1, c1, rfl, hag1⟩ := OwnB.ag o1 HA.out.b; rw [HA.out.l] at hag1 ⊢; have HB1 := Hid.mk hb1; have HA1 := Hid.mk hag1; have HO1 := Hid.mk (ownB_block o1); clear o1 hb1 hag1))
  go_ret
  exact ⟨⟨a1, c1, rfl, HA1.out, HO1.out⟩, HB1.out⟩
/-- A piece of bytes. -/
def pc (b : List Int) (i j : Nat) : List Int := (b.take j).drop i
theorem pc_len {b : List Int} {i j : Nat} (h : j ≤ b.length) : (pc b i j).length = j - i := by unfold pc; rw [List.length_drop, List.length_take]; omega
theorem pc_nil {b : List Int} {i j : Nat} (h : j ≤ i) : pc b i j = [] := by unfold pc; rw [List.drop_of_length_le]; rw [List.length_take]; omega
theorem pc_cons {b : List Int} {i j : Nat} (h : i < j) (hj : j ≤ b.length) : pc b i j = b.getD i 0 :: pc b (i + 1) j := by
  unfold pc
  rw [List.drop_eq_getElem_cons (by rw [List.length_take]; omega), List.getElem_take, List.getD, List.getElem?_eq_getElem (by omega)]
  rfl
theorem pc_sub {b : List Int} {i j f t : Nat} (h : i + t ≤ j) : ((pc b i j).take t).drop f = pc b (i + f) (i + t) := by
  unfold pc
  rw [List.take_drop, List.drop_drop, List.take_take, Nat.min_eq_left h]
theorem pc_get {b : List Int} {i j k : Nat} (h : i + k < j) (hj : j ≤ b.length) : (pc b i j).getD k 0 = b.getD (i + k) 0 := by
  unfold pc
  rw [List.getD, List.getElem?_drop, List.getElem?_take_of_lt h]
  rfl
theorem pc_mem {b : List Int} {i j : Nat} {x : Int} (h : x ∈ pc b i j) : x ∈ b := List.mem_of_mem_take (List.mem_of_mem_drop h)
def zeroV : Value := .agg #[.bool false, .slice none 0 0, .slice none 0 0]
/-- What first leaves. -/
def FPost (w : World) (i : Nat) (r : R) : Ending → World → Prop := fun e w' => Below w.heap.size w w' ∧
  match r with
  | .bad er => e = .returned (.tuple #[.agg #[.bool false, .slice none 0 0, .slice none 0 0], .int .i64 0, .int .i64 (er : Nat)]) ∧ er ≠ 0
  | .ok t m => ∃ y : V, e = .returned (.tuple #[.agg #[.bool y.l, .slice y.ba y.bn y.bc, .slice y.ia y.m y.ic], .int .i64 (i + m : Nat), .int .i64 0]) ∧ LiesP (fun b => w.heap.size ≤ b) w' t y
def FSaid (k : Nat) : Prop := ∀ (a : Option Addr) (n c : Nat) (b : List Int) (w : World), Ag w a n c b → n ≤ 140737488351232 → ∀ i j d : Nat, i ≤ j → j ≤ n → d + k = 8 →
  Calls Try.prog 81 #[.slice a n c, .int .i64 i, .int .i64 j, .int .i64 d] w (FPost w i (rd k (pc b i j)))
/-- What items leaves. -/
def GPost (w : World) (j : Nat) (r : RL) : Ending → World → Prop := fun e w' => Below w.heap.size w w' ∧
  match r with
  | .bad er => e = .returned (.tuple #[.agg #[.bool false, .slice none 0 0, .slice none 0 0], .int .i64 0, .int .i64 (er : Nat)]) ∧ er ≠ 0
  | .ok ts => ∃ ia ic, e = .returned (.tuple #[.agg #[.bool true, .slice none 0 0, .slice ia ts.length ic], .int .i64 j, .int .i64 0]) ∧ ts.length ≤ ic ∧ ic ≤ maxLen ∧ LiesPAll (fun b => w.heap.size ≤ b) w' ts ia 0
/-- The end of a bad way. -/
theorem rb_bad {w v : World} (h : Rb w v) {i er : Nat} (her : er ≠ 0) : FPost w i (.bad er) (.returned (.tuple #[.agg #[.bool false, .slice none 0 0, .slice none 0 0], .int .i64 0, .int .i64 (er : Nat)])) v := ⟨h.bel, rfl, her⟩
theorem lenIn_long {r : List Int} {c : Nat} (h : 3 < c) : lenIn r c = (0, 23) := by unfold lenIn; rw [if_pos h]
theorem lenIn_short {r : List Int} {c : Nat} (h : ¬ 3 < c) (h2 : r.length < c) : lenIn r c = (0, 22) := by unfold lenIn; rw [if_neg h, if_pos h2]
theorem lenIn_form {r : List Int} {c : Nat} (h : ¬ 3 < c) (h2 : ¬ r.length < c) (h3 : r.headD 0 = 0 ∨ val (r.take c) ≤ 55) : lenIn r c = (0, 23) := by unfold lenIn; rw [if_neg h, if_neg h2, if_pos h3]
theorem lenIn_good {r : List Int} {c : Nat} (h : ¬ 3 < c) (h2 : ¬ r.length < c) (h3 : ¬ (r.headD 0 = 0 ∨ val (r.take c) ≤ 55)) : lenIn r c = (val (r.take c), 0) := by unfold lenIn; rw [if_neg h, if_neg h2, if_neg h3]
theorem hdr_mid {deep : Bool} {x : Int} {r : List Int} (h1 : ¬ (192 ≤ x ∧ deep = true)) (h2 : ¬ x < 128) : hdr deep (x :: r) = if 55 < nOf x then (if (lenIn r (nOf x - 55)).2 ≠ 0 then .bad (lenIn r (nOf x - 55)).2 else if (x :: r).length - (1 + (nOf x - 55)) < (lenIn r (nOf x - 55)).1 then .bad 22 else .ok (1 + (nOf x - 55)) (1 + (nOf x - 55) + (lenIn r (nOf x - 55)).1)) else if (x :: r).length - 1 < nOf x then .bad 22 else .ok 1 (1 + nOf x) := by
  unfold hdr
  simp only
  rw [if_neg h1, if_neg h2]
/-- What is known of the head. -/
structure Hd (deep : Bool) (x : Int) (r : List Int) (f L : Nat) : Prop where
  f1 : 1 ≤ f
  f4 : f ≤ 4
  L24 : L < 16777216
  iff : f = 1 ↔ L ≤ 55
  fle : f ≤ r.length + 1
  eq : hdr deep (x :: r) = if (r.length + 1) - f < L then .bad 22 else .ok f (f + L)
theorem hd_one {deep : Bool} {x : Int} {r : List Int} (h1 : ¬ (192 ≤ x ∧ deep = true)) (h2 : ¬ x < 128) (h3 : ¬ 55 < nOf x) : Hd deep x r 1 (nOf x) :=
  ⟨Nat.le_refl _, by omega, by omega, by omega, by omega, by rw [hdr_mid h1 h2, if_neg h3]; rfl⟩
theorem hd_more {deep : Bool} {x : Int} {r : List Int} (hb : ∀ y ∈ r, 0 ≤ y ∧ y < 256) (h1 : ¬ (192 ≤ x ∧ deep = true)) (h2 : ¬ x < 128) (h3 : 55 < nOf x) (h4 : ¬ 3 < nOf x - 55) (h5 : ¬ r.length < nOf x - 55) (h6 : ¬ (r.headD 0 = 0 ∨ val (r.take (nOf x - 55)) ≤ 55)) : Hd deep x r (1 + (nOf x - 55)) (val (r.take (nOf x - 55))) := by
  have hv := val_take hb (j := nOf x - 55) (by omega) (by omega)
  refine ⟨by omega, by omega, by omega, by omega, by omega, ?_⟩
  rw [hdr_mid h1 h2, if_pos h3, lenIn_good h4 h5 h6]
  simp only [ne_eq, not_true, if_false]
  rfl
theorem hd_bad {deep : Bool} {x : Int} {r : List Int} {er : Nat} (h1 : ¬ (192 ≤ x ∧ deep = true)) (h2 : ¬ x < 128) (h3 : 55 < nOf x) (h4 : lenIn r (nOf x - 55) = (0, er)) (her : er ≠ 0) : hdr deep (x :: r) = .bad er := by
  rw [hdr_mid h1 h2, if_pos h3, h4]
  simp only
  rw [if_pos her]
theorem rd1_bad {g : List Int → R} {deep : Bool} {b : List Int} {e : Nat} (h : hdr deep b = .bad e) : rd1 g deep b = .bad e := by unfold rd1; rw [h]
end Go.Proofs.Ytamibjgahcpkcaa

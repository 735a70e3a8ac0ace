/- Rows of items of one's own that hang on chosen blocks alone: an item more, a box written. -/
import Derived.Test.YtmofehloiiopfaaG20
import Derived.Test.YtmofehloiiopfaaG06
import Derived.Test.YtmofehloiiopfaaG10
namespace Go.Proofs.Ytmofehloiiopfaa
open Go.RowKit
set_option linter.unusedVariables false
set_option maxRecDepth 100000
/-- A thing and its value that stay as long as those blocks stay of which P speaks. -/
def KL (P : Nat → Prop) (w : World) (t : T) (y : V) : Prop := ∀ w', (∀ b, P b → b < w.heap.size → w'.heap[b]? = w.heap[b]?) → Lies w' t y
section
variable {P Q : Nat → Prop} {w w' w1 w2 w3 : World} {t : T} {y : V} {ts : List T} {ys : List V} {v : Value} {N g : Nat}
theorem KL.lies (h : KL P w t y) : Lies w t y := h w fun _ _ _ => rfl
theorem KL.mono (h : KL P w t y) (hz : w.heap.size ≤ w'.heap.size) (hk : ∀ b, P b → b < w.heap.size → w'.heap[b]? = w.heap[b]? ∧ Q b) : KL Q w' t y := fun w'' h'' => h w'' fun b hb hl => (h'' b (hk b hb hl).2 (by omega)).trans (hk b hb hl).1
theorem KL.go (h : KL P w t y) (hb : Below w.heap.size w w') : KL P w' t y := h.mono hb.size fun b hp hl => ⟨hb.block b hl, hp⟩
theorem KL.put {cells : Array Value} (h : KL P w t y) (hp : Put w w' g cells) (hg : ¬ P g) : KL P w' t y := h.mono (by rw [hp.size]; exact Nat.le_refl _) fun b hb _ => ⟨hp.other fun e => hg (e ▸ hb), hb⟩
theorem KL.of (h : KL P w t y) (hk : ∀ b, P b → b < w.heap.size → Q b) : KL Q w t y := h.mono (Nat.le_refl _) fun b hb hl => ⟨rfl, hk b hb hl⟩
/-- Bytes that lie in blocks of which P speaks. -/
theorem kl_tx {a : Option Addr} {n c : Nat} {b : List Int} (h : Ag w a n c b) (hn : n ≤ 140737488351232) (hP : ∀ g off, a = some ⟨g, off, none⟩ → P g) : KL P w (tx b) ⟨false, a, n, c, none, 0, 0⟩ := fun w' hk => lies_tx (ag_keep h fun g off e _ hl => hk g (hP g off e) hl) hn
def AllK (P : Nat → Prop) (w : World) : List T → List V → Prop
  | [], [] => True
  | t :: ts, y :: ys => KL P w t y ∧ AllK P w ts ys
  | _, _ => False
theorem AllK.len : ∀ {ts : List T} {ys : List V}, AllK P w ts ys → ts.length = ys.length
  | [], [], _ => rfl
  | t :: ts, y :: ys, h => by have := AllK.len h.2; simp [this]
theorem AllK.mono (hz : w.heap.size ≤ w'.heap.size) (hk : ∀ b, P b → b < w.heap.size → w'.heap[b]? = w.heap[b]? ∧ Q b) : ∀ {ts : List T} {ys : List V}, AllK P w ts ys → AllK Q w' ts ys
  | [], [], _ => trivial
  | t :: ts, y :: ys, h => ⟨h.1.mono hz hk, AllK.mono hz hk h.2⟩
theorem AllK.snoc (h1 : KL P w t y) : ∀ {ts : List T} {ys : List V}, AllK P w ts ys → AllK P w (ts ++ [t]) (ys ++ [y])
  | [], [], _ => ⟨h1, trivial⟩
  | _ :: ts, _ :: ys, h => ⟨h.1, AllK.snoc h1 h.2⟩
/-- Things and their values, one by one, wherever they lie. -/
def AllY (w : World) : List T → List V → Prop
  | [], [] => True
  | t :: ts, y :: ys => Lies w t y ∧ AllY w ts ys
  | _, _ => False
theorem AllK.to (hk : ∀ b, P b → b < w.heap.size → w'.heap[b]? = w.heap[b]?) : ∀ {ts : List T} {ys : List V}, AllK P w ts ys → AllY w' ts ys
  | [], [], _ => trivial
  | _ :: ts, _ :: ys, h => ⟨h.1 w' hk, AllK.to hk h.2⟩
theorem rowK_lies {all : List V} (hc : ∀ j u, (all.flatMap V.cells)[j]? = some u → w.cell? ((⟨g, 0, none⟩ : Addr).add j) = some u) :
    ∀ (ts : List T) (ys pre : List V), all = pre ++ ys → AllY w ts ys → LiesAll w ts (some ⟨g, 0, none⟩) pre.length
  | [], [], pre, _, _ => liesAll_nil
  | t :: ts, y :: ys, pre, e, h => by
    have hr := rowK_lies hc ts ys (pre ++ [y]) (by rw [e]; simp) h.2
    rw [List.length_append] at hr
    refine liesAll_cons.2 ⟨⟨g, 0, y, rfl, ?_, ?_, ?_, h.1⟩, hr⟩
    · have := hc (pre.length * 3 + 0) (.bool y.l) (by rw [e]; exact flat_get pre y ys 0 _ rfl)
      rw [addr_add] at this
      simpa using this
    · have := hc (pre.length * 3 + 1) (.slice y.ba y.bn y.bc) (by rw [e]; exact flat_get pre y ys 1 _ rfl)
      rw [addr_add] at this
      rw [show 0 + pre.length * 3 + 1 = 0 + (pre.length * 3 + 1) from by omega]
      exact this
    · have := hc (pre.length * 3 + 2) (.slice y.ia y.m y.ic) (by rw [e]; exact flat_get pre y ys 2 _ rfl)
      rw [addr_add] at this
      rw [show 0 + pre.length * 3 + 2 = 0 + (pre.length * 3 + 2) from by omega]
      exact this
/-- A row of one's own, from block N on, that holds items; nothing of them lies in blocks of which P does not speak. -/
structure IL (P : Nat → Prop) (N : Nat) (w : World) (v : Value) (ts : List T) : Prop where
  ex : ∃ ys, OwnI w N v ys ∧ AllK (fun b => P b ∧ v.ownBlock ≠ some b) w ts ys
  own : ∀ g, v.ownBlock = some g → P g
theorem il_nil : IL P N w (.slice none 0 0) [] := ⟨⟨[], World.ownsRow_nil _ _ _ _, trivial⟩, fun g e => by cases e⟩
theorem IL.keep (h : IL P N w v ts) (hz : w.heap.size ≤ w'.heap.size) (hk : ∀ b, P b → b < w.heap.size → w'.heap[b]? = w.heap[b]?) : IL P N w' v ts := by
  obtain ⟨ys, h1, h2⟩ := h.ex
  exact ⟨⟨ys, own_keep h1 fun g hg hlt => hk g (h.own g hg) hlt, h2.mono hz fun b hb hl => ⟨hk b hb.1 hl, hb⟩⟩, h.own⟩
theorem IL.go (h : IL P N w v ts) (hb : Below w.heap.size w w') : IL P N w' v ts := h.keep hb.size fun b _ hl => hb.block b hl
theorem IL.set1 {o : Nat} {u : Value} (h : IL P N w v ts) (hp : Set1 w w' g o u) (hg : ¬ P g) : IL P N w' v ts := h.keep hp.touch.size fun b hb _ => hp.other fun e => hg (e ▸ hb)
theorem IL.at (h : IL P N w v ts) (hk : ∀ b, P b → b < w.heap.size → w'.heap[b]? = w.heap[b]?) : ∃ ia ic, v = .slice ia ts.length ic ∧ ts.length ≤ ic ∧ ic ≤ maxLen ∧ LiesAll w' ts ia 0 := by
  obtain ⟨ys, h1, h2⟩ := h.ex
  have hown := own_keep h1 fun g hg hlt => hk g (h.own g hg) hlt
  have hl := h2.len
  have hy := h2.to fun b hb hl => hk b hb.1 hl
  rcases hown.2 with ⟨rfl, hn0⟩ | ⟨g, cap, cur, rfl, hbg, hg, hnc, hcm, hcs, htake⟩
  · have : ts = [] := List.eq_nil_of_length_eq_zero (by omega)
    subst this
    exact ⟨none, 0, rfl, Nat.le_refl _, by unfold maxLen; omega, liesAll_nil⟩
  · exact ⟨some ⟨g, 0, none⟩, cap, by rw [hl], by omega, hcm, rowK_lies (World.ownsRow.cells hown (g := g) rfl) ts ys [] rfl hy⟩
theorem IL.lies (h : IL P N w v ts) : ∃ ia ic, v = .slice ia ts.length ic ∧ ts.length ≤ ic ∧ ic ≤ maxLen ∧ LiesAll w ts ia 0 := h.at fun _ _ _ => rfl
/-- The row as an item. -/
theorem IL.item (h : IL P N w v ts) (hm : ts.length ≤ 1000000000) : ∃ ia ic, v = .slice ia ts.length ic ∧ KL P w (.mk true [] ts) ⟨true, none, 0, 0, ia, ts.length, ic⟩ := by
  obtain ⟨ia, ic, e, h1, h2, _⟩ := h.lies
  refine ⟨ia, ic, e, fun w' hk => ?_⟩
  obtain ⟨ia', ic', e', h1', h2', h3'⟩ := h.at hk
  rw [e] at e'
  injection e' with q1 q2 q3
  rw [← q1] at h3'
  exact lies_eq.2 ⟨rfl, ⟨.inl ⟨rfl, rfl⟩, fun _ => ⟨rfl, rfl⟩, rfl, fun x hx => by cases hx⟩, rfl, h1, h2, ⟨Nat.zero_le _, by show ts.length ≤ _; omega⟩, h3'⟩
/-- What an append onto a row leaves. -/
structure Gr (it : Value) (w w' : World) : Prop where
  os : w'.os = w.os
  tape : w'.tape = w.tape
  output : w'.output = w.output
  size : w.heap.size ≤ w'.heap.size
  block : ∀ b, b < w.heap.size → it.ownBlock ≠ some b → w'.heap[b]? = w.heap[b]?
theorem Gr.below {it : Value} {B : Nat} {w0 : World} (h : Gr it w w') (hb : Below B w0 w) (hB : B ≤ w.heap.size) (ho : ∀ g, it.ownBlock = some g → B ≤ g) : Below B w0 w' :=
  ⟨h.os.trans hb.os, h.tape.trans hb.tape, h.output.trans hb.output, Nat.le_trans hb.size h.size, fun k hk => (h.block k (by omega) fun e => by have := ho k e; omega).trans (hb.block k hk)⟩
/-- An item more. -/
theorem IL.app {g : Nat} (h : IL P N w v ts) (hN : N ≤ w.heap.size) (hy : KL (fun b => P b ∧ v.ownBlock ≠ some b) w t y) (hlen : ts.length ≤ 1000000000) (hP : ∀ b, w.heap.size ≤ b → P b) (hn : New w w' g #[.bool y.l, .slice y.ba y.bn y.bc, .slice y.ia y.m y.ic] 45) (ty : TypeId) :
    ∃ v' w3, (Builtin.append_ #[43, 43] ty #[v, .slice (some ⟨g, 0, none⟩) 1 1]).run Try.prog w' = .ok v' w3 ∧ IL P N w3 v' (ts ++ [t]) ∧ Gr v w w3 := by
  obtain ⟨ys, hown, hall⟩ := h.ex
  have hb := hn.below
  have hsz := hn.size
  have hg := hn.hg
  have hnews : ∀ j u, (V.cells y)[j]? = some u → w'.cell? ((⟨g, 0, none⟩ : Addr).add j) = some u := by
    intro j u hu
    rw [addr_add, Nat.zero_add, cell_of_row _ _ _ _ _ _ hn.row]
    simpa [V.cells] using hu
  obtain ⟨v', w3, hrun, hown3, hgr, hown4⟩ := app_item (own_keep hown fun g _ hg => hb.block g hg) y _ 1 hnews (by omega) (by have := hall.len; omega) ty
  have hfar : ∀ b, b < w.heap.size → v.ownBlock ≠ some b → w3.heap[b]? = w.heap[b]? := fun b hb' hne => (hgr.block b (by omega) (fun h => hne h.symm)).trans (hb.block b hb')
  have hz3 : w.heap.size ≤ w3.heap.size := by have := hgr.size; omega
  have hv' : ∀ b, b < w.heap.size → v.ownBlock ≠ some b → v'.ownBlock ≠ some b := fun b hb' hne e => by
    rcases hown4 with h4 | h4
    · exact hne (h4.symm.trans e)
    · rw [h4] at e; cases e; omega
  refine ⟨v', w3, hrun, ⟨⟨_, hown3, AllK.snoc ?_ ?_⟩, ?_⟩, ⟨hgr.os.trans hb.os, hgr.tape.trans hb.tape, hgr.output.trans hb.output, hz3, hfar⟩⟩
  · exact hy.mono hz3 fun b hb' hl => ⟨hfar b hl hb'.2, hb'.1, hv' b hl hb'.2⟩
  · exact hall.mono hz3 fun b hb' hl => ⟨hfar b hl hb'.2, hb'.1, hv' b hl hb'.2⟩
  · intro k hk
    rcases hown4 with h4 | h4
    · exact h.own k (h4.symm.trans hk)
    · rw [h4] at hk; cases hk; exact hP _ (by omega)
/-- The result of an append, as the walk asks it. -/
theorem ol_appI {u r x1 : Value} {ρ : Operand → Value} {o : Oper} (x z : Operand) (ho : o.op = .call { callee := .builtin .append, args := #[x, z], argTypes := #[43, 43] }) (hx : ρ x = x1) (hy : ρ z = u) (ty : TypeId) (ht : o.type = ty) (hr : (Builtin.append_ #[43, 43] ty #[x1, u]).run Try.prog w = .ok r w') : (execOp ρ o).run Try.prog w = .ok (.value r) w' := by
  subst ht
  unfold execOp
  simp only [ho, resolve, invoke, builtin, Sem.run_bind, Sem.run_pure, Result.andThen_ok, List.map_toArray, List.map_cons, List.map_nil, hx, hy, hr]
/-- A row is stored into its item's box. -/
theorem ol_storeI {ia : Option Addr} {m ic : Nat} {old : Value} {ρ : Operand → Value} {o : Oper} (x z : Operand) (ho : o.op = .store 43 x z) (hx : ρ x = .pointer (some ⟨g, 2, none⟩)) (hy : ρ z = .slice ia m ic) (hc : w.cell? ⟨g, 2, none⟩ = some old) (hf : ∀ o, w.frozen? ⟨g, o, none⟩ = false) : (execOp ρ o).run Try.prog w = .ok .skip (w.setCell ⟨g, 2, none⟩ (.slice ia m ic)) := by
  unfold execOp
  rw [ho]
  simp only [hx, hy]
  go_simp
end
def RSn (n : Nat) (w : World) : Value → World → Prop := fun u w' => (∃ x c, u = .slice x (nb n) c ∧ Ag w' x (nb n) c (be n) ∧ Wo.Lo w.heap.size x) ∧ Bl w w'
theorem rwbytes2 (n : Nat) (h : n < W64) (w : World) : Calls Try.prog 52 #[.int .u64 ((n : Nat) : Int)] w fun e w' => ∃ v, e = .returned v ∧ RSn n w v w' := by
  refine (Wo.rbytes_any (n : Int) (by omega) (by unfold W64 at h; omega) w).mono ?_
  rintro e w' ⟨⟨a, c, rfl, hag, hlo⟩, hb⟩
  rw [Int.toNat_natCast, wo_be, wo_nb] at hag
  rw [Int.toNat_natCast, wo_nb]
  exact ⟨_, rfl, ⟨_, _, rfl, hag, hlo⟩, hb⟩
/-- An item that is told: it hangs on new blocks alone. -/
def RKi (w : World) (t : T) : Value → World → Prop := fun u w' => (∃ y : V, u = .agg (IV y) ∧ KL (fun b => w.heap.size ≤ b) w' t y) ∧ Bl w w'
end Go.Proofs.Ytmofehloiiopfaa
/- What the document's functions of transactions tell: a word's item. -/
namespace Go.Proofs.Ytmofehloiiopfaa
open Go.RowKit
open Di (dref)
set_option linter.unusedVariables false
set_option maxRecDepth 100000
theorem rword (n : Nat) (h : n < W64) (w : World) : Calls Try.prog 46 #[.int .u64 ((n : Nat) : Int)] w fun e w' => ∃ v, e = .returned v ∧ RKi w (tx (be n)) v w' := by
  have hB : Bl w w := Bl.refl w
  refine cw_enter Try.func46 rfl 6 rfl ?_
  show CW _ _ _ _ _ _ _ [(0, .int .u64 ((n : Nat) : Int))] _
  refine cw_seq ?_
  refine cw_region ?_
  refine rw_new 2 (#[.bool false, .slice none 0 0, .slice none 0 0]) 45 (fun _ => by kernel_rfl) (fun _ => by kernel_rfl) ?_
  intro w1 g2 hn3
  have hzg2 : w.heap.size ≤ g2 := by have := hB.size; have := hn3.hg; omega
  replace hB := hB.go hn3.below
  have hr4 : Rw g2 w1 (#[.bool false, .slice none 0 0, .slice none 0 0]) 45 := hn3.row
  refine rw_nil ?_
  refine nw_then ?_
  refine cw_seq ?_
  refine cw_region ?_
  refine rp 3 (.int .u64 ((n : Nat) : Int)) ?_
  refine rw_call 4 52 #[.int .u64 ((n : Nat) : Int)] (fun _ => by kernel_rfl) (fun _ => by kernel_rfl) (R := RSn n w1) (rwbytes2 n h w1) ?_
  rintro _ w7 ⟨⟨a5, c6, rfl, ha8, hlo9⟩, hb10⟩
  have hlt : g2 < w1.heap.size := hr4.lt
  replace hB := hB.go hb10
  replace hr4 := hr4.go hb10
  have hkl : KL (fun b => w1.heap.size ≤ b) w7 (tx (be n)) _ := kl_tx ha8 (by have := be_b8 h; have := be_nb n; omega) hlo9
  refine rp 5 (.agg #[.bool false, .slice a5 (nb n) c6, .slice none 0 0]) ?_
  refine rw_put g2 (#[.bool false, .slice a5 (nb n) c6, .slice none 0 0]) (fun _ => by kernel_rfl) (fun _ => ol_store 45 _ _ _ _ _ 45 rfl (by kernel_rfl) (by kernel_rfl) hr4 (by kernel_rfl) (by kernel_rfl) (by kernel_rfl)) ?_
  intro w11 hp12
  replace hkl := hkl.put hp12 (by omega)
  replace hB := hB.put hp12 hzg2
  replace hr4 := hr4.put hp12
  refine rw_nil ?_
  refine nw_then ?_
  refine cw_ret ?_
  refine nw_ret_body (.agg (#[.bool false, .slice a5 (nb n) c6, .slice none 0 0])) (fun _ => res_c1 rfl _ g2 _ (by kernel_rfl) hr4 Try.underlying45 rfl (by kernel_rfl)) ?_
  exact ⟨_, rfl, ⟨⟨false, a5, nb n, c6, none, 0, 0⟩, rfl, hkl.of fun b hb _ => by omega⟩, hB⟩
end Go.Proofs.Ytmofehloiiopfaa
/- The document's list of a transaction's items as it is written: what holds between two of them. -/
namespace Go.Proofs.Ytmofehloiiopfaa
open Go.RowKit
set_option linter.unusedVariables false
set_option maxRecDepth 100000
theorem lt_of_cell {w : World} {g o : Nat} {v : Value} (h : w.cell? ⟨g, o, none⟩ = some v) : g < w.heap.size := by
  by_cases hq : g < w.heap.size
  · exact hq
  · have : w.heap[g]? = none := Array.getElem?_eq_none (by omega)
    simp [World.cell?, this] at h
theorem Rw.put1 {g o : Nat} {w w' : World} {cells : Array Value} {T : TypeId} {u : Value} (h : Rw g w cells T) (hs : Set1 w w' g o u) : Rw g w' (cells.setIfInBounds o u) T := by
  unfold Rw at *
  rw [hs.hw, heap_setCell_same w g o _ T u h]
theorem IL.val {P : Nat → Prop} {N : Nat} {w : World} {v : Value} {ts : List T} (h : IL P N w v ts) : ∃ ia ic, v = .slice ia ts.length ic := by
  obtain ⟨ia, ic, e, _⟩ := h.lies
  exact ⟨ia, ic, e⟩
theorem IL.lt {P : Nat → Prop} {N g : Nat} {w : World} {v : Value} {ts : List T} (h : IL P N w v ts) (hg : v.ownBlock = some g) : g < w.heap.size := by
  obtain ⟨ys, h1, _⟩ := h.ex
  exact (own_lt h1 hg).2
theorem IL.lo {P : Nat → Prop} {N g : Nat} {w : World} {v : Value} {ts : List T} (h : IL P N w v ts) (hg : v.ownBlock = some g) : N ≤ g := by
  obtain ⟨ys, h1, _⟩ := h.ex
  exact (own_lt h1 hg).1
theorem Gr.rw {it : Value} {w w' : World} {g : Nat} {cells : Array Value} {T : TypeId} (h : Gr it w w') (hr : Rw g w cells T) (hne : it.ownBlock ≠ some g) : Rw g w' cells T := (h.block g hr.lt hne).trans hr
/-- The transaction's box, the list's box, the list so far. -/
structure Bs (w0 : World) (y : TV) (gt g3 : Nat) (ts : List T) (v : World) : Prop where
  tx : Rw gt v y.cells 26
  ex : ∃ it, Rw g3 v #[.bool true, .slice none 0 0, it] 45 ∧ IL (fun b => b ≠ gt ∧ b ≠ g3) w0.heap.size v it ts
  bel : Bl w0 v
  lt : w0.heap.size ≤ gt ∧ gt < g3
theorem Bs.go {w0 w w' : World} {y : TV} {gt g3 : Nat} {ts : List T} (h : Bs w0 y gt g3 ts w) (hb : Below w.heap.size w w') : Bs w0 y gt g3 ts w' := by
  obtain ⟨it, h1, h2⟩ := h.ex
  exact ⟨h.tx.go hb, ⟨it, h1.go hb, h2.go hb⟩, h.bel.go hb, h.lt⟩
theorem IL.of {P Q : Nat → Prop} {N : Nat} {w : World} {v : Value} {ts : List T} (h : IL P N w v ts) (hk : ∀ b, P b → b < w.heap.size → Q b) : IL Q N w v ts := by
  obtain ⟨ys, h1, h2⟩ := h.ex
  exact ⟨⟨ys, h1, h2.mono (Nat.le_refl _) fun b hb hl => ⟨rfl, hk b hb.1 hl, hb.2⟩⟩, fun g hg => hk g (h.own g hg) (own_lt h1 hg).2⟩
/-- Bytes that lie in memory that was there before. -/
theorem kl_old {P : Nat → Prop} {w0 w : World} {a : Option Addr} {n c : Nat} {b : List Int} (h : Ag w0 a n c b) (hB : Bl w0 w) (hn : n ≤ 140737488351232) (hP : ∀ g, g < w0.heap.size → P g) : KL P w (tx b) ⟨false, a, n, c, none, 0, 0⟩ := fun w' hk =>
  lies_tx (ag_keep (h.go hB) fun g off e hp hl => hk g (hP g (by
    rcases h.i with ⟨h0, _⟩ | ⟨gb, o, e', hl', _, _, _, hc⟩
    · omega
    · rw [e] at e'
      cases e'
      exact lt_of_cell (hc 0 (by omega)))) hl) hn
/-- One cell of a box is written. -/
theorem ol_storeB {g : Nat} {a : Option Addr} {m c : Nat} {old : Value} {w : World} {ρ : Operand → Value} {o : Oper} (x z : Operand) (ho : o.op = .store 24 x z) (hx : ρ x = .pointer (some ⟨g, 1, none⟩)) (hy : ρ z = .slice a m c) (hc : w.cell? ⟨g, 1, none⟩ = some old) (hf : ∀ o, w.frozen? ⟨g, o, none⟩ = false) : (execOp ρ o).run Try.prog w = .ok .skip (w.setCell ⟨g, 1, none⟩ (.slice a m c)) := by
  unfold execOp
  rw [ho]
  simp only [hx, hy]
  go_simp
/-- The box of a list within, and that list so far: all in new memory. -/
structure Bt (u : World) (g4 : Nat) (us : List T) (v : World) : Prop where
  ex : ∃ it, Rw g4 v #[.bool true, .slice none 0 0, it] 45 ∧ IL (fun b => g4 < b) (g4 + 1) v it us
  bel : Bl u v
  eq : g4 = u.heap.size
theorem Bt.go {u w w' : World} {g4 : Nat} {us : List T} (h : Bt u g4 us w) (hb : Below w.heap.size w w') : Bt u g4 us w' := by
  obtain ⟨it, h1, h2⟩ := h.ex
  exact ⟨⟨it, h1.go hb, h2.go hb⟩, h.bel.go hb, h.eq⟩
def tws (l : List Nat) : List T := l.map fun n => tx (be n)
theorem tws_take {l : List Nat} {i n : Nat} (h : l[i]? = some n) : tws (l.take (i + 1)) = tws (l.take i) ++ [tx (be n)] := by
  unfold tws
  rw [List.take_add_one, h, List.map_append]
  rfl
theorem tws_len {l : List Nat} {i : Nat} (h : i ≤ l.length) : (tws (l.take i)).length = i := by
  unfold tws
  rw [List.length_map, List.length_take]
  omega
theorem tx_body {t : PX} (h : okX t) (hr : rtX t = true) : (bodyOf (itX t)).length ≤ 16777215 := by
  have hb := bodyX h hr
  unfold bodyOf
  rw [show (itX t).bs = [] from rfl, List.nil_append]
  omega
theorem rwencX {t : PX} (ok : okX t) (hr : rtX t = true) {w : World} {y : V} (h : Lies w (itX t) y) : Calls Try.prog 47 #[.agg (IV y)] w fun e w' => ∃ v, e = .returned v ∧ RSl w (enX t) v w' := by
  refine (rbytes_any (itX t) y w h (tx_body ok hr)).mono ?_
  rintro e w' ⟨⟨x, n, c, rfl, hag, _⟩, hb⟩
  exact ⟨_, rfl, ⟨x, n, c, rfl, hag⟩, hb⟩
theorem lies_all {w : World} {v : Value} {P : Nat → Prop} {N : Nat} {ts : List T} (h : IL P N w v ts) (hl : ts.length ≤ 1000000000) : ∃ ia ic, v = .slice ia ts.length ic ∧ Lies w (.mk true [] ts) ⟨true, none, 0, 0, ia, ts.length, ic⟩ := by
  obtain ⟨ia, ic, e, hk⟩ := h.item hl
  exact ⟨ia, ic, e, hk.lies⟩
def lsX (y : TV) : List T := ((([tx (be y.t.f), tx (be y.t.n), tx (be y.t.g), tx (be y.t.p), tx (be y.t.o), tx (be y.t.v)] ++ [T.mk true [] (tws y.t.i)]) ++ [tx (mkB y.t.m)]) ++ [tx y.t.c])
theorem lsX_it (y : TV) : T.mk true [] (lsX y) = itX y.t := rfl
theorem lsX_len (y : TV) : (lsX y).length ≤ 1000000000 := by unfold lsX; simp
theorem fin_ts {t : PX} {ts : List T} (hts : T.mk true [] ts = itX t) (hlen : ts.length ≤ 1000000000) (ok : okX t) (hr : rtX t = true) {P : Nat → Prop} {N : Nat} {w : World} {ia : Option Addr} {ic : Nat} (h : IL P N w (.slice ia ts.length ic) ts) :
    Calls Try.prog 47 #[.agg (#[.bool true, .slice none 0 0, .slice ia ts.length ic])] w fun e w' => ∃ v, e = .returned v ∧ RSl w (enX t) v w' := by
  obtain ⟨ia', ic', e, hl'⟩ := lies_all h hlen
  rw [hts] at hl'
  have e1 : ia = ia' := by injection e
  have e3 : ic = ic' := by injection e
  rw [e1, e3]
  exact rwencX (y := ⟨true, none, 0, 0, ia', ts.length, ic'⟩) ok hr hl'
theorem fin_bytes {y : TV} (ok : okX y.t) (hr : rtX y.t = true) {P : Nat → Prop} {N : Nat} {w : World} {ia : Option Addr} {ic : Nat} (h : IL P N w (.slice ia (lsX y).length ic) (lsX y)) :
    Calls Try.prog 47 #[.agg (#[.bool true, .slice none 0 0, .slice ia (lsX y).length ic])] w fun e w' => ∃ v, e = .returned v ∧ RSl w (enX y.t) v w' := fin_ts (lsX_it y) (lsX_len y) ok hr h
end Go.Proofs.Ytmofehloiiopfaa

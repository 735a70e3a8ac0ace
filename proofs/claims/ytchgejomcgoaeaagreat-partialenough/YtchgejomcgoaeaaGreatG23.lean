/- The maps of a trie of parts, written; a trie of parts in memory. -/
import Derived.Test.YtchgejomcgoaeaaGreatG22
import Derived.Test.YtchgejomcgoaeaaGreatG16
import Derived.Test.YtchgejomcgoaeaaGreatG15
set_option linter.unusedVariables false
set_option maxRecDepth 100000
namespace Go.Proofs.YtchgejomcgoaeaaGreat
open Go.RowKit
open Go.ChangeMaps (setBlock)
open Di (dref)
open Pt
variable {d : List Int} {w : World} {es : List MapEntry}
theorem Ziy {kn : Kn} (h : EntK w es kn) (hf : findK d kn = none) : findI d (kn.map (·.1)) = none := by
 have := h.find (d := d)
 cases hq : findI d (kn.map (·.1)) with
 | none => rfl
 | some j => rw [hq] at this; obtain ⟨e, t, _, h2, _⟩ := this; rw [hf] at h2; cases h2
theorem Zkz {m : Nat} {es : Array MapEntry} {clock : Nat} (h : w.heap[m]? = some (.map es clock)) : ∀ o, w.heap[m]? = some o → ¬ HasB o := fun o ho => by rw [h] at ho; cases ho; exact id
theorem Zoa {w : World} {m : Nat} {kn : Kn} (h : MKn w m kn) {d : List Int} (hd : d.length = 32) (hf : findK d kn = none) {t : Pt} {v : Value} (ht : ThA w t v) :
    ∃ w', (∀ (ρ : Operand → Value) (o : Oper) (x y z : Operand), o.op = .mapUpdate 44 x y z → ρ x = .map (some m) → ρ y = .agg (B8 d) → ρ z = v → (execOp ρ o).run Tryz.prog w = .ok .skip w') ∧ MKn w' m (kn ++ [(d, t)]) ∧ Touch m w w' ∧ Nt w w' := by
  obtain ⟨es, clock, hm, he⟩ := h
  have hff := Zf0 d hd w es.toList _ he.keys
  rw [Ziy he hf] at hff
  have hnt : Nt w (setBlock w m (.map (es.push { key := .agg (B8 d), val := v, born := clock }) (clock + 1))) := Nt.touch (Zbk _ _ _) (Zkz hm)
  refine ⟨setBlock w m (.map (es.push { key := .agg (B8 d), val := v, born := clock }) (clock + 1)), fun ρ o x y z ho hx hy hz => ?_, ⟨_, _, Zcj hm, ?_⟩, Zbk _ _ _, hnt⟩
  · unfold execOp
    simp [ho, hx, hy, hz, Instr.mapUpdate, run_underlying Tryz.underlying44, MapKept.run_getObj_map hm, Zb3 d hd, hff, MapKept.run_setObj_map _ hm, Result.andThen, setBlock]
  · rw [Array.toList_push]
    exact (he.nt hnt).push hd (ht.nt hnt)
theorem Zqc {ds : List (List Int)} (h : Keys es ds) (hd : d.length = 32) {v : Value} {b : Nat} : Keys (es ++ [{ key := .agg (B8 d), val := v, born := b }]) (ds ++ [d]) := by
 refine ⟨by rw [List.map_append, List.map_append, h.1]; rfl, fun x hx => ?_⟩
 rcases List.mem_append.1 hx with hx | hx
 ·exact h.2 x hx
 ·rw [List.mem_singleton.1 hx]; exact hd
def useP (d : List Int) (us : List (List Int)) : List (List Int) := match findI d us with
  | none => us ++ [d]
  | some _ => us
theorem Zj8 {d : List Int} : ∀ {ds : List (List Int)} {j : Nat}, findI d ds = some j → ds[j]? = some d
  | x :: r, j, h => by
    unfold findI at h
    by_cases hx : x = d
    · rw [if_pos hx] at h; cases h; rw [hx]; rfl
    · rw [if_neg hx] at h
      cases hq : findI d r with
      | none => rw [hq] at h; cases h
      | some i => rw [hq] at h; cases h; simpa using Zj8 hq
theorem Zlj {w : World} {m : Nat} {us : List (List Int)} (h : MUs w m us) {d : List Int} (hd : d.length = 32) :
    ∃ w', (∀ (ρ : Operand → Value) (o : Oper) (x y z : Operand), o.op = .mapUpdate 46 x y z → ρ x = .map (some m) → ρ y = .agg (B8 d) → ρ z = .agg #[] → (execOp ρ o).run Tryz.prog w = .ok .skip w') ∧ MUs w' m (useP d us) ∧ Touch m w w' ∧ Nt w w' := by
  obtain ⟨es, clock, hm, he, hsta⟩ := h
  have hff := Zf0 d hd w es.toList _ he
  unfold useP
  cases hq : findI d us with
  | none =>
    rw [hq] at hff
    refine ⟨setBlock w m (.map (es.push { key := .agg (B8 d), val := .agg #[], born := clock }) (clock + 1)), fun ρ o x y z ho hx hy hz => ?_, ⟨_, _, Zcj hm, ?_, by rw [Array.toList_push]; exact hsta.push _ _⟩, Zbk _ _ _, Nt.touch (Zbk _ _ _) (Zkz hm)⟩
    · unfold execOp
      simp [ho, hx, hy, hz, Instr.mapUpdate, run_underlying Tryz.underlying46, MapKept.run_getObj_map hm, Zb3 d hd, hff, MapKept.run_setObj_map _ hm, Result.andThen, setBlock]
    · rw [Array.toList_push]
      exact Zqc he hd
  | some j =>
    have hj := Zj8 hq
    have hjl := (List.getElem?_eq_some_iff.1 hj).1
    have hlen : es.toList.length = us.length := by have := congrArg List.length he.1; simpa using this
    have hje : j < es.toList.length := by omega
    rw [hq] at hff
    simp only at hff
    rw [List.getElem?_eq_getElem hje] at hff
    have hkey : es.toList[j].key = .agg (B8 d) := by
      have h1 : (es.toList.map (·.key))[j]? = (us.map fun d => Value.agg (B8 d))[j]? := by rw [he.1]
      rw [List.getElem?_map, List.getElem?_map, hj, List.getElem?_eq_getElem hje] at h1
      simpa using h1
    have hes : es[j]? = some es.toList[j] := by simp [Array.getElem?_eq_getElem (show j < es.size by simpa using hje)]
    have hbo : (es.modify j fun e => { e with key := .agg (B8 d), val := .agg #[] }).toList.map (·.born) = es.toList.map (·.born) := by
      rw [Array.toList_modify, Go.ChangeMaps.modify_eq_set _ _ _ es.toList[j] (List.getElem?_eq_getElem hje), List.map_set]
      have h5 : j < (es.toList.map (·.born)).length := by simpa using hje
      have h6 : (es.toList.map (·.born))[j]'h5 = es.toList[j].born := List.getElem_map _
      show (es.toList.map (·.born)).set j es.toList[j].born = _
      rw [← h6]
      exact List.set_getElem_self _
    have hst := stays d w
    refine ⟨setBlock w m (.map (es.modify j fun e => { e with key := .agg (B8 d), val := .agg #[] }) clock), fun ρ o x y z ho hx hy hz => ?_, ⟨_, _, Zcj hm, ⟨?_, he.2⟩, hsta.same hbo⟩, Zbk _ _ _, Nt.touch (Zbk _ _ _) (Zkz hm)⟩
    · have hgk : ((es[j]?).map (·.key)).getD (.agg (B8 d)) = .agg (B8 d) := by rw [hes]; exact hkey
      unfold execOp
      simp only [ho, hx, hy, hz, Instr.mapUpdate, Sem.run_bind, run_underlying Tryz.underlying46, Result.andThen_ok, MapKept.run_getObj_map hm, Zb3 d hd, hff, Option.map_some, hgk, hst, MapKept.run_setObj_map _ hm]
      rfl
    · rw [Array.toList_modify, Go.ChangeMaps.modify_eq_set _ _ _ es.toList[j] (List.getElem?_eq_getElem hje), List.map_set, ← he.1]
      rw [show (Value.agg (B8 d)) = (es.toList.map (·.key))[j]'(by simpa using hje) from by rw [List.getElem_map, hkey]]
      exact List.set_getElem_self _
structure PAt (w : World) (g gK gU : Nat) (t : Pt) (kn : Kn) (us : List (List Int)) : Prop where
  row : ∃ v, Rw g w #[v, .map (some gK), .map (some gU)] 49 ∧ ThA w t v
  km : MKn w gK kn
  um : MUs w gU us
  ne : gK ≠ gU
  wg : Wg t 0
  ok : KnOk kn
section
variable {w w' : World} {g gK gU : Nat} {t : Pt} {kn : Kn} {us us' : List (List Int)}
theorem MKn.keep {m : Nat} (h : MKn w m kn) (hn : Nt w w') (hm : w'.heap[m]? = w.heap[m]?) : MKn w' m kn := by
 obtain ⟨es, clock, h1, h2⟩ := h
 exact ⟨es, clock, hm.trans h1, h2.nt hn⟩
theorem MUs.keep {m : Nat} (h : MUs w m us) (hm : w'.heap[m]? = w.heap[m]?) : MUs w' m us := by
 obtain ⟨es, clock, h1, h2⟩ := h
 exact ⟨es, clock, hm.trans h1, h2⟩
theorem MKn.lt {m : Nat} (h : MKn w m kn) : m < w.heap.size := by obtain ⟨es, clock, h1, _⟩ := h; exact lt_of_get h1
theorem MUs.lt {m : Nat} (h : MUs w m us) : m < w.heap.size := by obtain ⟨es, clock, h1, _⟩ := h; exact lt_of_get h1
theorem PAt.lt (h : PAt w g gK gU t kn us) : g < w.heap.size := by obtain ⟨v, h1, _⟩ := h.row; exact lt_of_get h1
theorem PAt.neK (h : PAt w g gK gU t kn us) : g ≠ gK := fun e => by
  obtain ⟨v, h1, _⟩ := h.row
  obtain ⟨es, clock, h2, _⟩ := h.km
  rw [← e, show w.heap[g]? = _ from h1] at h2
  cases h2
theorem PAt.neU (h : PAt w g gK gU t kn us) : g ≠ gU := fun e => by
  obtain ⟨v, h1, _⟩ := h.row
  obtain ⟨es, clock, h2, _⟩ := h.um
  rw [← e, show w.heap[g]? = _ from h1] at h2
  cases h2
theorem PAt.keep (h : PAt w g gK gU t kn us) (hn : Nt w w') (h1 : w'.heap[g]? = w.heap[g]?) (h2 : w'.heap[gK]? = w.heap[gK]?) (h3 : MUs w' gU us') : PAt w' g gK gU t kn us' := by
 obtain ⟨v, r1, r2⟩ := h.row
 exact ⟨⟨v, h1.trans r1, r2.nt hn⟩, h.km.keep hn h2, h3, h.ne, h.wg, h.ok⟩
theorem PAt.go (h : PAt w g gK gU t kn us) (hb : Below w.heap.size w w') : PAt w' g gK gU t kn us :=
  h.keep (Nt.below hb) (hb.block _ h.lt) (hb.block _ h.km.lt) (h.um.keep (hb.block _ h.um.lt))
theorem PAt.used (h : PAt w g gK gU t kn us) (ht : Touch gU w w') (hn : Nt w w') (hu : MUs w' gU us') : PAt w' g gK gU t kn us' :=
  h.keep hn (ht.block _ h.lt h.neU) (ht.block _ h.km.lt h.ne) hu
end
end Go.Proofs.YtchgejomcgoaeaaGreat
namespace Go.Proofs.YtchgejomcgoaeaaGreat
open Go.RowKit
open Pt
variable {n g o c : Nat} {w w' : World} {k : Nat → Pt} {vs : Nat → Value} {a : Option Addr} {b u : Value} {fn : Func} {p : Tmp} {d : TypeDesc}
def bra (vs : Nat → Value) : Array Value := #[vs 0, vs 1, vs 2, vs 3, vs 4, vs 5, vs 6, vs 7, vs 8, vs 9, vs 10, vs 11, vs 12, vs 13, vs 14, vs 15]
theorem Zpn {w : World} {g : Nat} {vs : Nat → Value} {s : Value} {ρ : Operand → Value} {o : Oper} (h : Rw g w (brc vs s) 116) (x : Operand) (ho : o.op = .load 114 x) (hx : ρ x = .pointer (some ⟨g, 0, none⟩)) : (execOp ρ o).run Tryz.prog w = .ok (.value (.agg (bra vs))) w := by
  refine Zb2 114 x g 0 [vs 0, vs 1, vs 2, vs 3, vs 4, vs 5, vs 6, vs 7, vs 8, vs 9, vs 10, vs 11, vs 12, vs 13, vs 14, vs 15] _ ho hx ?_ Tryz.underlying114 rfl (by kernel_rfl)
  intro j v hj
  have hl : j < 16 := (List.getElem?_eq_some_iff.1 hj).1
  rw [Nat.zero_add, cell_of_row _ _ _ _ _ _ h, Zg9 _ _ _ hl]
  match j, hl, hj with
  | 0, _, hj => exact hj
  | 1, _, hj => exact hj
  | 2, _, hj => exact hj
  | 3, _, hj => exact hj
  | 4, _, hj => exact hj
  | 5, _, hj => exact hj
  | 6, _, hj => exact hj
  | 7, _, hj => exact hj
  | 8, _, hj => exact hj
  | 9, _, hj => exact hj
  | 10, _, hj => exact hj
  | 11, _, hj => exact hj
  | 12, _, hj => exact hj
  | 13, _, hj => exact hj
  | 14, _, hj => exact hj
  | 15, _, hj => exact hj
  | n + 16, hl, _ => omega
theorem Zx6 (vs : Nat → Value) (w : World) : ∀ j : Nat, j < 16 → (Instr.index 114 (.agg (bra vs)) (.int .i64 ((j : Nat) : Int))).run Tryz.prog w = .ok (vs j) w
  | 0, _ => by kernel_rfl
  | 1, _ => by kernel_rfl
  | 2, _ => by kernel_rfl
  | 3, _ => by kernel_rfl
  | 4, _ => by kernel_rfl
  | 5, _ => by kernel_rfl
  | 6, _ => by kernel_rfl
  | 7, _ => by kernel_rfl
  | 8, _ => by kernel_rfl
  | 9, _ => by kernel_rfl
  | 10, _ => by kernel_rfl
  | 11, _ => by kernel_rfl
  | 12, _ => by kernel_rfl
  | 13, _ => by kernel_rfl
  | 14, _ => by kernel_rfl
  | 15, _ => by kernel_rfl
  | n + 16, h => by omega
theorem Zpj {ρ : Operand → Value} {w : World} {o : Oper} (x y : Operand) (vs : Nat → Value) (j : Nat) (hj : j < 16) (ho : o.op = .index 114 x y) (hx : ρ x = .agg (bra vs)) (hy : ρ y = .int .i64 ((j : Nat) : Int)) : (execOp ρ o).run Tryz.prog w = .ok (.value (vs j)) w := by
 unfold execOp
 rw [ho]
 simp only [hx, hy, Sem.run_bind, Zx6 vs w j hj, Result.andThen_ok, Sem.run_pure]
theorem Zt4 {w0 w : World} {t : Pt} {v : Value} (h : ThA w0 t v) {ρ : Operand → Value} {o : Oper} (i : Nat) (r : TypeId) (ho : o.op = .binOp .neq 47 (.tmp i) (.const .nilIface) r) (hx : ρ (.tmp i) = v) (hy : ρ (.const .nilIface) = .nilIface) : (execOp ρ o).run Tryz.prog w = .ok (.value (.bool (!t.isNo))) w := by
 unfold execOp
 rw [ho]
 simp only [hx, hy]
 cases t with
 | no => rw [show v = .nilIface from h]; kernel_rfl
 | st d => rw [h.1]; kernel_rfl
 | leaf p x => obtain ⟨_, _, _, _, _, _, rfl, _⟩ := h; kernel_rfl
 | ext p t => obtain ⟨_, _, _, _, rfl, _⟩ := h; kernel_rfl
 | br k x => obtain ⟨_, _, _, _, rfl, _⟩ := h; kernel_rfl
theorem Zpk {w0 w : World} {t : Pt} {v : Value} (h : ThA w0 t v) {ρ : Operand → Value} {o : Oper} (i : Nat) (r : TypeId) (ho : o.op = .binOp .eql 47 (.tmp i) (.const .nilIface) r) (hx : ρ (.tmp i) = v) (hy : ρ (.const .nilIface) = .nilIface) : (execOp ρ o).run Tryz.prog w = .ok (.value (.bool t.isNo)) w := by
 unfold execOp
 rw [ho]
 simp only [hx, hy]
 cases t with
 | no => rw [show v = .nilIface from h]; kernel_rfl
 | st d => rw [h.1]; kernel_rfl
 | leaf p x => obtain ⟨_, _, _, _, _, _, rfl, _⟩ := h; kernel_rfl
 | ext p t => obtain ⟨_, _, _, _, rfl, _⟩ := h; kernel_rfl
 | br k x => obtain ⟨_, _, _, _, rfl, _⟩ := h; kernel_rfl
theorem Zwt (h : n < 16) : IntKind.u8.wrap (n : Int) = n := by unfold IntKind.wrap; simp [IntKind.bits, IntKind.signed]; omega
theorem Zb5 {P : Program} {ρ : Operand → Value} {w : World} {o : Oper} {kd : IntKind} (T : TypeId) (x y : Operand) (g off j len sz : Nat) (E : TypeId) (ho : o.op = .indexAddr T x y) (hx : ρ x = .pointer (some ⟨g, off, none⟩)) (hy : ρ y = .int kd j) (hj : j < len) (h2 : 1 < len) (hu : P.underlying T = some (.array len E)) (hi : (P.info? E).map (·.size) = some sz) :
    (execOp ρ o).run P w = .ok (.value (.pointer (some ⟨g, off + j * sz, none⟩))) w := by
  have hs : (sizeOf E).run P w = .ok sz w := by
    cases hq : P.info? E with
    | none => simp [hq] at hi
    | some z => simp [hq] at hi; simp [sizeOf, typeInfo, hq, hi]
  unfold execOp
  rw [ho]
  simp only [hx, hy]
  have he : (if j * sz = 0 then (⟨g, off, none⟩ : Addr) else ⟨g, off + j * sz, none⟩) = ⟨g, off + j * sz, none⟩ := by split <;> simp_all
  simp [Instr.indexAt, Instr.sureAddr, asIntOf, run_underlying hu, hs, hj, Result.andThen, Addr.add, he]
theorem Zbr {ρ : Operand → Value} {w : World} {o : Oper} (T : TypeId) (x y : Operand) (g j : Nat) (cells : Array Value) (E : TypeId) (v : Value) (h : Rw g w cells E) (ho : o.op = .store T x y) (hx : ρ x = .pointer (some ⟨g, j, none⟩)) (hy : ρ y = v) (hj : j < cells.size) (h1 : v.cells = #[v]) (h2 : v.oneCell' = true) (hi : (Tryz.prog.info? T).map (·.size) = some 1) :
    (execOp ρ o).run Tryz.prog w = .ok .skip (w.setCell ⟨g, j, none⟩ v) := by
  have hc : w.cell? ⟨g, j, none⟩ = some cells[j] := by rw [cell_of_row _ _ _ _ _ _ h]; exact Array.getElem?_eq_getElem hj
  have hf : w.frozen? ⟨g, j, none⟩ = false := frozen_of_row _ _ _ _ _ h
  have hs : (sizeOf T).run Tryz.prog w = .ok 1 w := by
    cases hq : Tryz.prog.info? T with
    | none => simp [hq] at hi
    | some z => simp [hq] at hi; simp [sizeOf, typeInfo, hq, hi]
  unfold execOp
  rw [ho]
  simp only [hx, hy, Instr.storeAt, Instr.sureAddr, storeVar, h1, Sem.run_bind, Sem.run_pure, Result.andThen_ok, hs]
  go_simp
  rw [run_store _ _ _ _ _ h2]
  simp [hc, hf]
theorem Rw.set {cells cells' : Array Value} {T : TypeId} {v : Value} (h : Rw g w cells T) (hs : Set1 w w' g o v) (e : cells.setIfInBounds o v = cells') : Rw g w' cells' T := by
 rw [← e, Rw, hs.hw]; exact heap_setCell_same _ _ _ _ _ _ h
theorem Rw.lt {cells : Array Value} {T : TypeId} (h : Rw g w cells T) : g < w.heap.size := lt_of_get h
theorem Rw.past {g' : Nat} {cells : Array Value} {T : TypeId} (h : Rw g w cells T) (ht : Touch g' w w') (hne : g ≠ g') : Rw g w' cells T := (ht.block g (lt_of_get h) hne).trans h
theorem Bl.tou {w0 : World} (h : Bl w0 w) (ht : Touch g w w') (hg : w0.heap.size ≤ g) : Bl w0 w' := ht.below h hg h.size
theorem Nt.rows {cells : Array Value} {T : TypeId} (h : Rw g w cells T) (hn : ∀ (j : Nat) (x : Int), cells[j]? ≠ some (Value.int .u8 x)) (ht : Touch g w w') : Nt w w' := Nt.touch ht fun o ho => by
  rw [show w.heap[g]? = _ from h] at ho
  cases ho
  rintro ⟨j, x, hj⟩
  exact hn j x hj
theorem Zdi (h : KA w k vs) : ∀ (j : Nat) (x : Int), (brc vs (.slice a n c))[j]? ≠ some (Value.int .u8 x) := fun j x hj => by
  rcases Zwl hj with ⟨i, hi, e⟩ | e
  · exact (h i hi).u8 x e.symm
  · cases e
theorem Zbl (h : KA w k vs) : (brc vs (.slice a n c)).all (·.oneCell') = true := by
 unfold brc
 refine all_oneCell_toArray ?_
 intro v hv
 simp only [List.mem_cons, List.not_mem_nil, or_false] at hv
 rcases hv with rfl | rfl | rfl | rfl | rfl | rfl | rfl | rfl | rfl | rfl | rfl | rfl | rfl | rfl | rfl | rfl | rfl
 ·exact (h 0 (by omega)).one
 ·exact (h 1 (by omega)).one
 ·exact (h 2 (by omega)).one
 ·exact (h 3 (by omega)).one
 ·exact (h 4 (by omega)).one
 ·exact (h 5 (by omega)).one
 ·exact (h 6 (by omega)).one
 ·exact (h 7 (by omega)).one
 ·exact (h 8 (by omega)).one
 ·exact (h 9 (by omega)).one
 ·exact (h 10 (by omega)).one
 ·exact (h 11 (by omega)).one
 ·exact (h 12 (by omega)).one
 ·exact (h 13 (by omega)).one
 ·exact (h 14 (by omega)).one
 ·exact (h 15 (by omega)).one
 ·rfl
theorem one2 {a : Value} (ha : a.oneCell' = true) (hb : b.oneCell' = true) : (#[a, b] : Array Value).all (·.oneCell') = true := all_oneCell_toArray fun v hv => by
  simp only [List.mem_cons, List.not_mem_nil, or_false] at hv
  rcases hv with rfl | rfl
  · exact ha
  · exact hb
theorem one3 {a c : Value} (ha : a.oneCell' = true) (hb : b.oneCell' = true) (hc : c.oneCell' = true) : (#[a, b, c] : Array Value).all (·.oneCell') = true := all_oneCell_toArray fun v hv => by
  simp only [List.mem_cons, List.not_mem_nil, or_false] at hv
  rcases hv with rfl | rfl | rfl
  · exact ha
  · exact hb
  · exact hc
theorem nob3 {t : Pt} {v : Value} (h : ThA w t v) {a : Value} (ha : ∀ x, a ≠ .int .u8 x) (hb : ∀ x, b ≠ .int .u8 x) : ∀ (j : Nat) (x : Int), (#[v, a, b] : Array Value)[j]? ≠ some (Value.int .u8 x) := fun j x hj => by
  match j with
  | 0 => exact h.u8 x (Option.some.inj hj)
  | 1 => exact ha x (Option.some.inj hj)
  | 2 => exact hb x (Option.some.inj hj)
  | n + 3 => simp at hj
theorem Zch {f : Nat → Value} {T : TypeId} (h : fn.results = #[.cell p T]) (w : World) (g : Nat) (cs : Array Value) (hp : f p = .pointer (some ⟨g, 0, none⟩)) (hg : Rw g w cs T) (hu : Tryz.prog.underlying T = some d) (hd : (match d with | .struct _ | .array _ _ => true | _ => false) = true) (hi : (Tryz.prog.info? T).map (·.size) = some cs.size) : (resF f fn.results).run Tryz.prog w = .ok (.agg cs) w := by
 have := run_loadVar_row (P := Tryz.prog) w g T T _ _ _ hg hu (by cases d <;> first | rfl | exact hd) hi
 unfold resF
 rw [h]
 simp [hp, this, asAddr]
theorem Zgf {q : Tmp} {f : Nat → Value} {T : TypeId} (h : fn.results = #[.cell p T, .tmp q]) (w : World) (g : Nat) (cs : Array Value) (v : Value) (hp : f p = .pointer (some ⟨g, 0, none⟩)) (hq : f q = v) (hg : Rw g w cs T) (hu : Tryz.prog.underlying T = some d) (hd : (match d with | .struct _ | .array _ _ => true | _ => false) = true) (hi : (Tryz.prog.info? T).map (·.size) = some cs.size) : (resF f fn.results).run Tryz.prog w = .ok (.tuple #[.agg cs, v]) w := by
 have := run_loadVar_row (P := Tryz.prog) w g T T _ _ _ hg hu (by cases d <;> first | rfl | exact hd) hi
 unfold resF
 rw [h]
 simp [hp, hq, this, asAddr]
theorem Sk.head {K : Nat → Prop} {i : Int} {r : List Int} (h : Sk K w a n c (i :: r)) : ∃ g o, a = some ⟨g, o, none⟩ ∧ w.cell? ⟨g, o + 0 * 1, none⟩ = some (.int .u8 i) ∧ 0 < n := by
 have hl := h.len
 rw [List.length_cons] at hl
 rcases h.ag.i with ⟨h1, h2⟩ | ⟨gb, off, h1, h2, h3, h4, h5, h7⟩
 ·omega
 ·exact ⟨gb, off, h1, by rw [show off + 0 * 1 = off + 0 from by omega, h7 0 (by simp)]; rfl, h3⟩
theorem Zdh {v : Value} (h : w.cell? ⟨g, o, none⟩ = some v) (hb : Below w.heap.size w w') : w'.cell? ⟨g, o, none⟩ = some v := Zaw hb h
theorem Zbz {ρ : Operand → Value} {w : World} {o : Oper} (t : TypeId) (parts : Array (Nat × Operand)) (ho : o.op = .build t parts) (vals : List (Nat × Value)) (hv : (parts.map fun (i, x) => (i, ρ x)).toList = vals) (cells : Array Value) (hf : Tryz.prog.built t vals = some cells) : (execOp ρ o).run Tryz.prog w = .ok (.value (.agg cells)) w := by
 subst hv
 have hr := run_build w t (parts.map fun (i, x) => (i, ρ x)) cells (P := Tryz.prog) hf
 unfold execOp
 rw [ho]
 simp only [Sem.run_bind, hr, Result.andThen_ok, Sem.run_pure]
theorem Zlb {t : Pt} (h : ThA w t u) (a : Option Addr) (n c : Nat) : Tryz.prog.built 113 [(0, .slice a n c), (1, u)] = some #[.slice a n c, u] := by
 cases t with
 | no => rw [show u = .nilIface from h]; kernel_rfl
 | st d => rw [h.1]; kernel_rfl
 | leaf p x => obtain ⟨_, _, _, _, _, _, rfl, _⟩ := h; kernel_rfl
 | ext p t => obtain ⟨_, _, _, _, rfl, _⟩ := h; kernel_rfl
 | br k x => obtain ⟨_, _, _, _, rfl, _⟩ := h; kernel_rfl
theorem Zi5 {t : Pt} (h : ThA w t u) (l : Int) (b : Bool) : Tryz.prog.built 88 [(0, u), (1, .int .i64 l), (2, .bool b)] = some #[u, .int .i64 l, .bool b] := by
 cases t with
 | no => rw [show u = .nilIface from h]; kernel_rfl
 | st d => rw [h.1]; kernel_rfl
 | leaf p x => obtain ⟨_, _, _, _, _, _, rfl, _⟩ := h; kernel_rfl
 | ext p t => obtain ⟨_, _, _, _, rfl, _⟩ := h; kernel_rfl
 | br k x => obtain ⟨_, _, _, _, rfl, _⟩ := h; kernel_rfl
theorem Zth {t : Pt} (h : ThA w t u)  : Tryz.prog.built 88 [(0, u)] = some #[u, .int .i64 0, .bool false] := by
 cases t with
 | no => rw [show u = .nilIface from h]; kernel_rfl
 | st d => rw [h.1]; kernel_rfl
 | leaf p x => obtain ⟨_, _, _, _, _, _, rfl, _⟩ := h; kernel_rfl
 | ext p t => obtain ⟨_, _, _, _, rfl, _⟩ := h; kernel_rfl
 | br k x => obtain ⟨_, _, _, _, rfl, _⟩ := h; kernel_rfl
def RVl (w : World) (v : Value) : Value → World → Prop := fun u w' => u = v ∧ Bl w w'
def RTh (w : World) (t : Pt) : Value → World → Prop := fun u w' => ThA w' t u ∧ Bl w w'
def SpA (w : World) (s : Sp) (v : Value) : Prop := ThA w s.t v
def BrA (w : World) (t : Pt) (u : Value) : Prop := ∃ k x vs a n c, t = br k x ∧ u = .agg (brc vs (.slice a n c)) ∧ KA w k vs ∧ Sk An w a n c x ∧ n ≤ 256
def RBr (w : World) (t : Pt) : Value → World → Prop := fun u w' => BrA w' t u ∧ Bl w w'
end Go.Proofs.YtchgejomcgoaeaaGreat
namespace Go.Proofs.YtchgejomcgoaeaaGreat.Ni
open Go.RowKit
set_option maxHeartbeats 1000000 in
theorem common_any (a1 a2 : Option Addr) (n1 c1 n2 c2 : Nat) (p q : List Int) (w : World) (h1 : Ag w a1 n1 c1 p) (h2 : Ag w a2 n2 c2 q) (hn1 : n1 ≤ 140737488355328) (hn2 : n2 ≤ 140737488355328) :
    Calls Tryz.prog 65 #[.slice a1 n1 c1, .slice a2 n2 c2] w fun e w' => e = .returned (.int .i64 (com p q : Nat)) ∧ Below w.heap.size w w' := by
  have HL1 := Hid.mk h1.l
  have HL2 := Hid.mk h2.l
  have HC1 := Hid.mk (fun h => ag_head h1 h)
  have HC2 := Hid.mk (fun h => ag_head h2 h)
  clear h1 h2
  obtain ⟨res, hres⟩ : ∃ r, com p q = r := ⟨_, rfl⟩
  rw [hres]
  have HRES := Hid.mk hres
  clear hres
  go_enter Tryz.func65, Tryz.ntmps65
  go_wp2_with fail
  go_loopw [5] (fun i v => ∃ j : Nat, j ≤ n1 ∧ j ≤ n2 ∧ i = .int .i64 j ∧ p.take j = q.take j ∧ Below w.heap.size w v) (fun i _ => n1 - (intOf i).toNat)
  case atStart => exact ⟨0, by omega, by omega, rfl, rfl, Below.refl _ _⟩
  case round =>
    obtain ⟨j, hj1, hj2, rfl, htk, hb⟩ := hrel
    have HTK := Hid.mk htk
    have HBW := Hid.mk hb
    clear htk hb
    have HD : Hid ((j = p.length ∨ j = q.length ∨ p.getD j 0 ≠ q.getD j 0) → res = j) := Hid.mk (fun h => HRES.out.symm.trans (Zmv p q j (by have := HL1.out; omega) (by have := HL2.out; omega) HTK.out h))
    by_cases hlt1 : j < n1
    case neg =>
      have hji : ¬ (j : Int) < n1 := by omega
      have e := HD.out (.inl (by have := HL1.out; omega))
      subst e
      go_wp2_with fail
      go_region
      all_goals
        go_wp2_with fail
        go_ret
        exact ⟨rfl, HBW.out.drew⟩
    have hji1 : (j : Int) < n1 := by omega
    by_cases hlt2 : j < n2
    case neg =>
      have hji : ¬ (j : Int) < n2 := by omega
      have e := HD.out (.inr (.inl (by have := HL2.out; omega)))
      subst e
      go_wp2_with fail
      go_region
      all_goals
        go_wp2_with fail
        go_ret
        exact ⟨rfl, HBW.out.drew⟩
    have hji2 : (j : Int) < n2 := by omega
    obtain ⟨g1, o1, rfl, hnc1, hcm1, hcs1⟩ := HC1.out (by omega)
    obtain ⟨g2, o2, rfl, hnc2, hcm2, hcs2⟩ := HC2.out (by omega)
    unfold maxLen at hcm1 hcm2
    have hcell1 := (HBW.out.cell (p := ⟨g1, o1 + j, none⟩) (block_lt_of_cell (hcs1 j hlt1))).trans (hcs1 j hlt1)
    have hcell2 := (HBW.out.cell (p := ⟨g2, o2 + j, none⟩) (block_lt_of_cell (hcs2 j hlt2))).trans (hcs2 j hlt2)
    have HT1 := Hid.mk (Zen (b := p) (i := j) (by have := HL1.out; omega))
    have HT2 := Hid.mk (Zen (b := q) (i := j) (by have := HL2.out; omega))
    generalize p.getD j 0 = x at *
    generalize q.getD j 0 = y at *
    clear hcs1 hcs2
    by_cases hxy : x = y
    · subst hxy
      have hq : (x == x) = true := by simp
      go_wp2_with fail
      go_region
      all_goals
        go_wp2_with fail
        exact ⟨⟨j + 1, by omega, by omega, by simp, by rw [HT1.out, HT2.out, HTK.out], HBW.out.drew⟩, by simp [intOf]; omega⟩
    · have e := HD.out (.inr (.inr hxy))
      subst e
      have hq : (x == y) = false := by simpa using hxy
      clear hxy
      go_wp2_with fail
      go_region
      all_goals
        go_wp2_with fail
        go_ret
        exact ⟨rfl, HBW.out.drew⟩
end Go.Proofs.YtchgejomcgoaeaaGreat.Ni

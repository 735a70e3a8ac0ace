/- How lists of calls and of texts read as data, where these are of a bounded bulk. -/
import Derived.Test.YtjpcfdhkgfaeeaaG25
import Derived.Test.YtjpcfdhkgfaeeaaRows
namespace Go.Proofs.Ytjpcfdhkgfaeeaa
open Go.ChangeShapes Go.WideShapes Go.ChangeAt Go.RowKit
set_option linter.unusedVariables false
set_option maxRecDepth 100000
theorem bulk_pos {H : Type} (d : DataW H) : 1 ≤ Rows.uptoBulk d := by
  cases d with
  | lit l => cases l <;> simp [Rows.uptoBulk]
  | _ => simp [Rows.uptoBulk]
theorem bulk_len {H : Type} : ∀ ds : List (DataW H), ds.length ≤ Rows.uptoBulkAll ds
  | [] => by simp [Rows.uptoBulkAll]
  | d :: r => by
    have := bulk_len r
    have := bulk_pos d
    simp only [Rows.uptoBulkAll, List.length_cons]
    omega
theorem bulk_mem {H : Type} : ∀ {ds : List (DataW H)} {d : DataW H}, d ∈ ds → Rows.uptoBulk d ≤ Rows.uptoBulkAll ds
  | [], d, h => by cases h
  | e :: r, d, h => by
    simp only [Rows.uptoBulkAll]
    rcases List.mem_cons.1 h with rfl | h
    · omega
    · have := bulk_mem h
      omega
section
variable {H : Type} {enc : TypeId × Value → H} {w : World} {held : Bool}
theorem open_opB {fuel : Nat} {cs : List Value} {x : DataW H × List MemPlace} (hf : DataW.trod enc Try.prog w 0 (fun _ => true) held fuel 32 cs = some x)
    (hbk : Rows.uptoBulk x.1 ≤ 1048576) : ∃ y : Cl, cs = y.cells ∧ y.d.length = 32 ∧ y.s.size ≤ 140737488351232 := by
  obtain ⟨xs, n, hfu, hx, hcl, hxl, hel⟩ := DataW.trod_struct Try.underlying32 hf
  rw [cellsOP] at hcl
  have e0 := hel 0 _ rfl
  have e1 := hel 1 _ rfl
  have e2 := hel 2 _ rfl
  have e3 := hel 3 _ rfl
  have hxl4 : xs.length = 4 := hxl
  obtain ⟨x0, x1, x2, x3, rfl⟩ : ∃ x0 x1 x2 x3, xs = [x0, x1, x2, x3] := by
    match xs, hxl4 with
    | [a, b, c, d], _ => exact ⟨a, b, c, d, rfl⟩
  subst hx
  have f0 : DataW.trod enc Try.prog w 0 (fun _ => true) held n 3 ((cs.drop 0).take (Try.prog.cellsOf 3)) = some x0 := e0
  have f1 : DataW.trod enc Try.prog w 0 (fun _ => true) held n 9 ((cs.drop 1).take (Try.prog.cellsOf 9)) = some x1 := e1
  have f2 : DataW.trod enc Try.prog w 0 (fun _ => true) held n 4 ((cs.drop 2).take (Try.prog.cellsOf 4)) = some x2 := e2
  have f3 : DataW.trod enc Try.prog w 0 (fun _ => true) held n 30 ((cs.drop 3).take (Try.prog.cellsOf 30)) = some x3 := e3
  rw [cells3] at f0
  rw [cells9] at f1
  rw [cells4] at f2
  rw [cellsD] at f3
  obtain ⟨k, hk, _, _⟩ := DataW.trod_int Try.underlying3 f0
  obtain ⟨s, hs, hs2, _⟩ := DataW.trod_string Try.underlying9 f1
  obtain ⟨b, hb, _⟩ := DataW.trod_bool Try.underlying4 f2
  obtain ⟨ds, hd, hdl⟩ := open_digF f3
  refine ⟨⟨k, s, b, ds⟩, ?_, hdl, ?_⟩
  · rw [split4 (cs := cs) hcl, hk, hs, hb, hd]
    rfl
  · have hb : Rows.uptoBulk (DataW.agg [x0.1, x1.1, x2.1, x3.1]) ≤ 1048576 := hbk
    simp only [Rows.uptoBulk, Rows.uptoBulkAll] at hb
    rw [hs2] at hb
    simp only [Rows.uptoBulk] at hb
    have e : s.data.toList.length = s.size := Array.length_toList
    rw [e] at hb
    show s.size ≤ 140737488351232
    omega
theorem open_opsB {fuel : Nat} {cs : List Value} {x : DataW H × List MemPlace} (hf : DataW.trod enc Try.prog w 0 (fun _ => true) held fuel 22 cs = some x)
    (hbk : Rows.uptoBulk x.1 ≤ 1048576) : ∃ a m c xs, cs = [.slice a m c] ∧ Cs w a m c xs ∧ m ≤ 1048576 := by
  rcases DataW.trod_slice Try.underlying22 hf with ⟨hcs, _⟩ | ⟨p, len, cap, elems, rest, n, hfu, hcs, hx, _, hl, hm, hlen, hel, hrl, _⟩
  · exact ⟨none, 0, 0, [], hcs, ⟨rfl, by omega, fun j r hr => by simp at hr, fun x hx => by cases hx⟩, by omega⟩
  · subst hx
    have hb : Rows.uptoBulk (DataW.slice (elems.map (·.1)) (rest.map (·.1))) ≤ 1048576 := hbk
    simp only [Rows.uptoBulk] at hb
    have hlb := bulk_len (elems.map (·.1))
    rw [List.length_map] at hlb
    have hthing : ∀ i, i < len → ∃ y : Cl, (∀ k, k < 35 → w.cell? ((p.add (i * 35)).add k) = y.cells[k]?) ∧ y.d.length = 32 ∧ y.s.size ≤ 140737488351232 := by
      intro i hi
      have he := hel i hi
      rw [cellsOP, List.getElem?_eq_getElem (by omega), Option.bind_eq_some_iff] at he
      obtain ⟨cs', hc1, hc2⟩ := he
      obtain ⟨_, hc3, hc4⟩ := World.cells?_some hc1
      obtain ⟨y, hcs', hr⟩ := open_opB hc2 (Nat.le_trans (bulk_mem (List.mem_map_of_mem (List.getElem_mem _))) (by have e : Rows.uptoBulkAll (elems.map Prod.fst) = Rows.uptoBulkAll (elems.map (fun x => x.1)) := rfl; omega))
      refine ⟨y, ?_, hr⟩
      rw [hcs'] at hc4
      exact hc4
    have hspot : 0 < len → p.spot = none := by
      intro h
      obtain ⟨y, hc, hr⟩ := hthing 0 h
      have c0 := hc 0 (by omega)
      rw [show y.cells[0]? = some (.int .i64 y.k) from rfl] at c0
      simpa [Addr.add] using World.cell?_spot c0
    have hall : ∀ d k, k + d = len → ∃ ks : List Cl, ks.length = d ∧ (∀ j r, ks[j]? = some r → ∃ g off, (some p : Option Addr) = some ⟨g, off, none⟩ ∧ w.rangeAt g (off + (k + j) * 35) r.cells) ∧ ∀ x ∈ ks, x.d.length = 32 ∧ x.s.size ≤ 140737488351232 := by
      intro d
      induction d with
      | zero => intro k _; exact ⟨[], rfl, (fun j r hr => by simp at hr), fun x hx => by cases hx⟩
      | succ d ihd =>
        intro k hk
        obtain ⟨ks, h1, h2, h3⟩ := ihd (k + 1) (by omega)
        obtain ⟨y, hc, hr⟩ := hthing k (by omega)
        refine ⟨y :: ks, by rw [List.length_cons, h1], fun j s hs => ?_, fun x hx => ?_⟩
        · cases j with
          | zero =>
            simp at hs
            subst hs
            obtain ⟨g, off, spot⟩ := p
            have hsp : spot = none := hspot (by omega)
            subst hsp
            refine ⟨g, off, rfl, fun i u hu => ?_⟩
            have hi : i < 35 := by have := (List.getElem?_eq_some_iff.1 hu).1; rw [Cl.clen hr.1] at this; exact this
            have := hc i hi
            rw [addr_add, addr_add, hu] at this
            exact this
          | succ j =>
            obtain ⟨g, off, e, h3⟩ := h2 j s (by simpa using hs)
            rw [show k + 1 + j = k + (j + 1) from by omega] at h3
            exact ⟨g, off, e, h3⟩
        · rcases List.mem_cons.1 hx with rfl | hx
          · exact hr
          · exact h3 x hx
    obtain ⟨ks, h1, h2, h3⟩ := hall len 0 (by omega)
    refine ⟨some p, len, cap, ks, hcs, ⟨h1.symm, by omega, fun j r hr => ?_, h3⟩, by omega⟩
    obtain ⟨g, off, e, h3⟩ := h2 j r hr
    rw [Nat.zero_add] at h3
    exact ⟨g, off, e, h3⟩
end
theorem open_waysB {H : Type} {enc : TypeId × Value → H} {w : World} {b0 : Nat} {r : Reach} {held : Bool} {v : Value} {d : DataW H} {p : List MemPlace}
    (hv : Value.okWide Try.prog w r b0 63 v) (h : DataW.Trod enc Try.prog w 0 (fun _ => true) held 63 v d p)
    (hbk : Rows.uptoBulk d ≤ 1048576) : ∃ y : Wy, v = .agg y.cells ∧ WyAt w y ∧ y.n1 ≤ 1048576 ∧ y.n2 ≤ 1048576 ∧ y.n3 ≤ 1048576 := by
  obtain ⟨cs, rfl, hc⟩ := okWide_struct Try.underlying63 hv
  obtain ⟨fuel, hf⟩ := h
  obtain ⟨xs, n, hfu, hx, hcl, hxl, hel⟩ := DataW.trod_struct Try.underlying63 hf
  rw [cellsWY] at hcl
  have e0 := hel 0 _ rfl
  have e1 := hel 1 _ rfl
  have e2 := hel 2 _ rfl
  have hxl3 : xs.length = 3 := hxl
  obtain ⟨x0, x1, x2, rfl⟩ : ∃ x0 x1 x2, xs = [x0, x1, x2] := by
    match xs, hxl3 with
    | [a, b, c], _ => exact ⟨a, b, c, rfl⟩
  have hd : d = DataW.agg [x0.1, x1.1, x2.1] := congrArg Prod.fst hx
  have f0 : DataW.trod enc Try.prog w 0 (fun _ => true) held n 22 (((Value.agg cs).cells.toList.drop 0).take (Try.prog.cellsOf 22)) = some x0 := e0
  have f1 : DataW.trod enc Try.prog w 0 (fun _ => true) held n 22 (((Value.agg cs).cells.toList.drop 1).take (Try.prog.cellsOf 22)) = some x1 := e1
  have f2 : DataW.trod enc Try.prog w 0 (fun _ => true) held n 22 (((Value.agg cs).cells.toList.drop 2).take (Try.prog.cellsOf 22)) = some x2 := e2
  rw [cellsOL] at f0 f1 f2
  have hb : Rows.uptoBulk (DataW.agg [x0.1, x1.1, x2.1]) ≤ 1048576 := by rw [← hd]; exact hbk
  simp only [Rows.uptoBulk, Rows.uptoBulkAll] at hb
  obtain ⟨a1, n1, c1, y1, h1, o1, l1⟩ := open_opsB f0 (by omega)
  obtain ⟨a2, n2, c2, y2, h2, o2, l2⟩ := open_opsB f1 (by omega)
  obtain ⟨a3, n3, c3, y3, h3, o3, l3⟩ := open_opsB f2 (by omega)
  refine ⟨⟨a1, n1, c1, y1, a2, n2, c2, y2, a3, n3, c3, y3⟩, ?_, ⟨o1, o2, o3⟩, l1, l2, l3⟩
  congr 1
  apply Array.ext'
  have hs := split3 (cs := (Value.agg cs).cells.toList) hcl
  rw [h1, h2, h3] at hs
  have hs2 : cs.toList = [.slice a1 n1 c1, .slice a2 n2 c2, .slice a3 n3 c3] := by simpa [Value.cells] using hs
  exact hs2
end Go.Proofs.Ytjpcfdhkgfaeeaa
/- How a list of texts that is handed in reads as data, where it is of a bounded bulk. -/
namespace Go.Proofs.Ytjpcfdhkgfaeeaa
open Go.ChangeShapes Go.WideShapes Go.ChangeAt Go.RowKit
set_option linter.unusedVariables false
set_option maxRecDepth 100000
/-- A list of texts in memory. -/
structure Tx (w : World) (a : Option Addr) (n c : Nat) (ts : List ByteArray) : Prop where
  l : n = ts.length
  le : n ≤ 1048576
  rows : ∀ j t, ts[j]? = some t → ∃ g off, a = some ⟨g, off, none⟩ ∧ w.cell? ⟨g, off + j * 1, none⟩ = some (.string t)
  ok : ∀ t ∈ ts, t.size ≤ 140737488351232
theorem open_textsB {H : Type} {enc : TypeId × Value → H} {w : World} {b0 : Nat} {r : Reach} {held : Bool} {v : Value} {d : DataW H} {p : List MemPlace}
    (hv : Value.okWide Try.prog w r b0 43 v) (h : DataW.Trod enc Try.prog w 0 (fun _ => true) held 43 v d p)
    (hbk : Rows.uptoBulk d ≤ 1048576) : ∃ a m c ts, v = .slice a m c ∧ Tx w a m c ts := by
  obtain ⟨a0, len0, cap0, rfl⟩ := okWide_slice Try.underlying43 hv
  obtain ⟨fuel, hf⟩ := h
  rcases DataW.trod_slice Try.underlying43 hf with ⟨hcs, _⟩ | ⟨p, len, cap, elems, rest, n, hfu, hcs, hx, _, hl, hm, hlen, hel, hrl, _⟩
  · simp [Value.cells] at hcs
    obtain ⟨rfl, rfl, rfl⟩ := hcs
    exact ⟨none, 0, 0, [], rfl, ⟨rfl, by omega, fun j r hr => by simp at hr, fun x hx => by cases hx⟩⟩
  · simp [Value.cells] at hcs
    obtain ⟨rfl, rfl, rfl⟩ := hcs
    have hd : d = DataW.slice (elems.map (·.1)) (rest.map (·.1)) := congrArg Prod.fst hx
    rw [hd] at hbk
    simp only [Rows.uptoBulk] at hbk
    have hlb := bulk_len (elems.map (·.1))
    rw [List.length_map] at hlb
    have hthing : ∀ i, i < len0 → ∃ t : ByteArray, w.cell? ((p.add (i * 1)).add 0) = some (.string t) ∧ t.size ≤ 140737488351232 := by
      intro i hi
      have he := hel i hi
      rw [cells9, List.getElem?_eq_getElem (by omega), Option.bind_eq_some_iff] at he
      obtain ⟨cs', hc1, hc2⟩ := he
      obtain ⟨_, hc3, hc4⟩ := World.cells?_some hc1
      obtain ⟨s, hs, hs2, _⟩ := DataW.trod_string Try.underlying9 hc2
      have hb := bulk_mem (ds := elems.map (·.1)) (d := (elems[i]'(by omega)).1) (List.mem_map_of_mem (List.getElem_mem _))
      rw [show (elems[i]'(by omega)).1 = .lit (.string s.data.toList) from by rw [hs2]] at hb
      simp only [Rows.uptoBulk] at hb
      have e : s.data.toList.length = s.size := Array.length_toList
      rw [e] at hb
      refine ⟨s, ?_, by omega⟩
      have := hc4 0 (by omega)
      rw [hs] at this
      exact this
    have hspot : 0 < len0 → p.spot = none := by
      intro h
      obtain ⟨t, hc, _⟩ := hthing 0 h
      simpa [Addr.add] using World.cell?_spot hc
    have hall : ∀ d k, k + d = len0 → ∃ ks : List ByteArray, ks.length = d ∧ (∀ j r, ks[j]? = some r → ∃ g off, (some p : Option Addr) = some ⟨g, off, none⟩ ∧ w.cell? ⟨g, off + (k + j) * 1, none⟩ = some (.string r)) ∧ ∀ x ∈ ks, x.size ≤ 140737488351232 := by
      intro d
      induction d with
      | zero => intro k _; exact ⟨[], rfl, (fun j r hr => by simp at hr), fun x hx => by cases hx⟩
      | succ d ihd =>
        intro k hk
        obtain ⟨ks, h1, h2, h3⟩ := ihd (k + 1) (by omega)
        obtain ⟨t, hc, hr⟩ := hthing k (by omega)
        refine ⟨t :: ks, by rw [List.length_cons, h1], fun j s hs => ?_, fun x hx => ?_⟩
        · cases j with
          | zero =>
            simp at hs
            subst hs
            obtain ⟨g, off, spot⟩ := p
            have hsp : spot = none := hspot (by omega)
            subst hsp
            refine ⟨g, off, rfl, ?_⟩
            rw [addr_add, addr_add] at hc
            exact hc
          | succ j =>
            obtain ⟨g, off, e, h3⟩ := h2 j s (by simpa using hs)
            rw [show k + 1 + j = k + (j + 1) from by omega] at h3
            exact ⟨g, off, e, h3⟩
        · rcases List.mem_cons.1 hx with rfl | hx
          · exact hr
          · exact h3 x hx
    obtain ⟨ks, h1, h2, h3⟩ := hall len0 0 (by omega)
    refine ⟨some p, len0, cap0, ks, rfl, ⟨h1.symm, by omega, fun j r hr => ?_, h3⟩⟩
    obtain ⟨g, off, e, h3⟩ := h2 j r hr
    rw [Nat.zero_add] at h3
    exact ⟨g, off, e, h3⟩
theorem Tx.go {w w' : World} {a : Option Addr} {n c : Nat} {ts : List ByteArray} (h : Tx w a n c ts) (hb : Below w.heap.size w w') : Tx w' a n c ts := ⟨h.l, h.le, fun j x hj => by
  obtain ⟨g, off, e, hr⟩ := h.rows j x hj
  exact ⟨g, off, e, below_cell hb hr⟩, h.ok⟩
theorem Tx.at {w : World} {g off n c : Nat} {ts : List ByteArray} (h : Tx w (some ⟨g, off, none⟩) n c ts) {j : Nat} {t : ByteArray} (hj : ts[j]? = some t) : w.cell? ⟨g, off + j * 1, none⟩ = some (.string t) := by
  obtain ⟨g', off', e, hr⟩ := h.rows j t hj
  cases e
  exact hr
end Go.Proofs.Ytjpcfdhkgfaeeaa

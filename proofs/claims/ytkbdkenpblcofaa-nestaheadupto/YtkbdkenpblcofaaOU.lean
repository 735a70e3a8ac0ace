/- How an item that is handed in reads as data, where its bulk is bounded. -/
import Derived.Test.YtkbdkenpblcofaaO
import Derived.JoinedCond
import Derived.Test.YtkbdkenpblcofaaM2
namespace Go.Proofs.Ytkbdkenpblcofaa
open Go.ChangeShapes Go.WideShapes Go.ChangeAt Go.RowKit
set_option linter.unusedVariables false
theorem cellsI : Try.prog.cellsOf 25 = 3 := by kernel_rfl
theorem bulk_pos {H : Type} (d : DataW H) : 1 ≤ Rows.uptoBulk d := by
  cases d with
  | lit l => cases l <;> simp only [Rows.uptoBulk] <;> omega
  | _ => simp only [Rows.uptoBulk] <;> omega
theorem bulk_len {H : Type} : ∀ ds : List (DataW H), ds.length ≤ Rows.uptoBulkAll ds
  | [] => by simp [Rows.uptoBulkAll]
  | d :: r => by
    have h1 := bulk_pos d
    have h2 := bulk_len r
    simp only [Rows.uptoBulkAll, List.length_cons]
    omega
theorem bulk_slice {H : Type} (elems spare : List (DataW H)) : elems.length + spare.length ≤ Rows.uptoBulk (.slice elems spare) := by
  have h1 := bulk_len elems
  have h2 := bulk_len spare
  simp only [Rows.uptoBulk]
  omega
section
variable {H : Type} {enc : TypeId × Value → H} {w : World} {held : Bool}
theorem open_agU {fuel : Nat} {cs : List Value} {x : DataW H × List MemPlace} (hf : DataW.trod enc Try.prog w 0 (fun _ => true) held fuel 22 cs = some x)
    (hsz : Rows.uptoBulk x.1 ≤ 1048576) : ∃ a len cap bs, cs = [.slice a len cap] ∧ Ag w a len cap bs ∧ len ≤ 1048576 := by
  rcases open_ints Try.underlying22 Try.underlying5 cells5 hf with ⟨hcs, _⟩ | ⟨p, len, cap, zs, hcs, _, hl, hm, hz, hx, hcell, hwz⟩
  · exact ⟨none, 0, 0, [], hcs, ⟨.inl ⟨rfl, rfl⟩, fun _ => ⟨rfl, rfl⟩, rfl, fun x hx => by cases hx⟩, by omega⟩
  · have hz2 : zs.length = cap := by simpa using hz
    have hsz2 : (zs.take len).length + (zs.drop len).length ≤ 1048576 := by
      rw [hx] at hsz
      have := bulk_slice (lits .u8 (zs.take len) : List (DataW H)) (lits .u8 (zs.drop len))
      simp only [lits, List.length_map] at this
      exact Nat.le_trans this hsz
    simp only [List.length_take, List.length_drop] at hsz2
    have hlen : (zs.take len).length = len := by rw [List.length_take]; omega
    have hbd : ∀ n ∈ zs.take len, 0 ≤ n ∧ n < 256 := fun n hn => by
      have := bounds_u8 (hwz n (List.mem_of_mem_take hn))
      omega
    refine ⟨some p, len, cap, zs.take len, hcs, ⟨?_, (fun h => by cases h), hlen, hbd⟩, by omega⟩
    by_cases h0 : len = 0
    · subst h0
      exact .inl ⟨rfl, by simp⟩
    · obtain ⟨b, off, spot⟩ := p
      have hc := hcell 0 (by omega)
      have hspot : spot = none := by simpa [Addr.add] using World.cell?_spot hc
      subst hspot
      refine .inr ⟨b, off, rfl, hlen, by omega, hl, hm, fun j hj => ?_⟩
      rw [hlen] at hj
      have := hcell j (by omega)
      rw [addr_add] at this
      rw [this, List.getD, List.getD, List.getElem?_take_of_lt hj]
/-- An item that is read with so much fuel. -/
def OpenU (enc : TypeId × Value → H) (w : World) (held : Bool) (fuel : Nat) : Prop := ∀ (cs : List Value) (x : DataW H × List MemPlace), DataW.trod enc Try.prog w 0 (fun _ => true) held fuel 25 cs = some x →
  Rows.uptoBulk x.1 ≤ 1048576 → ∃ t y, cs = [.bool y.l, .slice y.ba y.bn y.bc, .slice y.ia y.m y.ic] ∧ Lies w t y
theorem bulk_all : ∀ {ds : List (DataW H)} {d : DataW H}, d ∈ ds → Rows.uptoBulk d ≤ Rows.uptoBulkAll ds
  | [], d, h => by cases h
  | d0 :: r, d, h => by
    simp only [Rows.uptoBulkAll]
    rcases List.mem_cons.1 h with rfl | h
    · omega
    · have := bulk_all h
      omega
theorem open_itemsU {fuel : Nat} (ih : ∀ n, n < fuel → OpenU enc w held n) {cs : List Value} {x : DataW H × List MemPlace} (hf : DataW.trod enc Try.prog w 0 (fun _ => true) held fuel 23 cs = some x)
    (hsz : Rows.uptoBulk x.1 ≤ 1048576) : ∃ a m c ts, cs = [.slice a m c] ∧ m = ts.length ∧ m ≤ c ∧ c ≤ maxLen ∧ m ≤ 140737488351232 ∧ LiesAll w ts a 0 := by
  rcases DataW.trod_slice Try.underlying23 hf with ⟨hcs, _⟩ | ⟨p, len, cap, elems, rest, n, hfu, hcs, hx, _, hl, hm, hlen, hel, _, _⟩
  · exact ⟨none, 0, 0, [], hcs, rfl, Nat.le_refl _, by unfold maxLen; omega, by omega, liesAll_nil⟩
  · subst hx
    have hsz0 : Rows.uptoBulk (DataW.slice (elems.map (·.1)) (rest.map (·.1))) ≤ 1048576 := hsz
    have hsz1 := bulk_slice (elems.map (·.1)) (rest.map (·.1))
    rw [List.length_map, List.length_map, hlen] at hsz1
    have hthing : ∀ i, i < len → ∃ t y, (∀ k, k < 3 → w.cell? ((p.add (i * 3)).add k) = [Value.bool y.l, .slice y.ba y.bn y.bc, .slice y.ia y.m y.ic][k]?) ∧ Lies w t y := by
      intro i hi
      have he := hel i hi
      rw [cellsI, List.getElem?_eq_getElem (by omega), Option.bind_eq_some_iff] at he
      obtain ⟨cs', hc1, hc2⟩ := he
      obtain ⟨_, hc3, hc4⟩ := World.cells?_some hc1
      obtain ⟨t, y, hcs', hli⟩ := ih n (by omega) cs' _ hc2 (Nat.le_trans (bulk_all (ds := elems.map (·.1)) (List.mem_map_of_mem (List.getElem_mem _))) (by
        have h2 : Rows.uptoBulk (DataW.slice (elems.map (·.1)) (rest.map (·.1))) = Rows.uptoBulkAll (elems.map (·.1)) + Rows.uptoBulkAll (rest.map (·.1)) + 1 := by simp only [Rows.uptoBulk]
        omega))
      refine ⟨t, y, ?_, hli⟩
      rw [hcs'] at hc4
      exact hc4
    have hspot : 0 < len → p.spot = none := by
      intro h
      obtain ⟨_, _, hc, _⟩ := hthing 0 h
      have c0 := hc 0 (by omega)
      simpa [Addr.add] using World.cell?_spot c0
    have hall : ∀ d k, k + d = len → ∃ ts : List T, ts.length = d ∧ LiesAll w ts (some p) k := by
      intro d
      induction d with
      | zero => intro k _; exact ⟨[], rfl, liesAll_nil⟩
      | succ d ihd =>
        intro k hk
        obtain ⟨ts, h1, h2⟩ := ihd (k + 1) (by omega)
        obtain ⟨t, y, hc, hli⟩ := hthing k (by omega)
        refine ⟨t :: ts, by rw [List.length_cons, h1], liesAll_cons.2 ⟨?_, h2⟩⟩
        obtain ⟨g, off, spot⟩ := p
        have hsp : spot = none := hspot (by omega)
        subst hsp
        have c0 := hc 0 (by omega)
        have c1 := hc 1 (by omega)
        have c2 := hc 2 (by omega)
        rw [addr_add, addr_add] at c0 c1 c2
        exact ⟨g, off, y, rfl, c0, c1, c2, hli⟩
    obtain ⟨ts, h1, h2⟩ := hall len 0 (by omega)
    exact ⟨some p, len, cap, ts, hcs, h1.symm, hl, hm, by omega, h2⟩
theorem open_itemU : ∀ fuel, OpenU enc w held fuel := by
  intro fuel
  induction fuel using Nat.strongRecOn with
  | _ fuel ih =>
    intro cs x hf hsz
    obtain ⟨xs, n, hfu, hx, hcl, hxl, hel⟩ := DataW.trod_struct Try.underlying25 hf
    rw [cellsI] at hcl
    have e0 := hel 0 _ rfl
    have e1 := hel 1 _ rfl
    have e2 := hel 2 _ rfl
    have hxl3 : xs.length = 3 := hxl
    obtain ⟨c0, c1, c2, rfl⟩ : ∃ c0 c1 c2, cs = [c0, c1, c2] := by
      match cs, hcl with
      | [a, b, c], _ => exact ⟨a, b, c, rfl⟩
    obtain ⟨x0, x1, x2, rfl⟩ : ∃ x0 x1 x2, xs = [x0, x1, x2] := by
      match xs, hxl3 with
      | [a, b, c], _ => exact ⟨a, b, c, rfl⟩
    subst hx
    have hwt : Rows.uptoBulk x1.1 ≤ 1048576 ∧ Rows.uptoBulk x2.1 ≤ 1048576 := by
      have h1 : Rows.uptoBulk (DataW.agg [x0.1, x1.1, x2.1]) ≤ 1048576 := hsz
      simp only [Rows.uptoBulk, Rows.uptoBulkAll] at h1
      omega
    have f0 : DataW.trod enc Try.prog w 0 (fun _ => true) held n 4 [c0] = some x0 := e0
    have f1 : DataW.trod enc Try.prog w 0 (fun _ => true) held n 22 [c1] = some x1 := e1
    have f2 : DataW.trod enc Try.prog w 0 (fun _ => true) held n 23 [c2] = some x2 := e2
    obtain ⟨l, hl, _⟩ := DataW.trod_bool Try.underlying4 f0
    obtain ⟨ba, bn, bc, bs, hb, hag, hbn⟩ := open_agU f1 hwt.1
    obtain ⟨ia, m, ic, ts, hi, hm, hmc, hcm, hm2, hall⟩ := open_itemsU (fun k hk => ih k (by omega)) f2 hwt.2
    cases hl
    cases hb
    cases hi
    exact ⟨.mk l bs ts, ⟨l, ba, bn, bc, ia, m, ic⟩, rfl, lies_eq.2 ⟨rfl, hag, hm, hmc, hcm, ⟨by show bn ≤ 140737488351232; omega, hm2⟩, hall⟩⟩
end
/-- An item that came in, opened. -/
theorem open_itemB {H : Type} {enc : TypeId × Value → H} {w : World} {b0 : Nat} {r : Reach} {held : Bool} {v : Value} {d : DataW H} {p : List MemPlace}
    (hv : Value.okWide Try.prog w r b0 25 v) (h : DataW.Trod enc Try.prog w 0 (fun _ => true) held 25 v d p)
    (hsz : Rows.uptoBulk d ≤ 1048576) : ∃ t y, v = .agg #[.bool y.l, .slice y.ba y.bn y.bc, .slice y.ia y.m y.ic] ∧ Lies w t y := by
  obtain ⟨cs, rfl, hc⟩ := okWide_struct Try.underlying25 hv
  obtain ⟨fuel, hf⟩ := h
  obtain ⟨t, y, hcs, hli⟩ := open_itemU fuel _ _ hf hsz
  refine ⟨t, y, ?_, hli⟩
  congr 1
  apply Array.ext'
  simpa [Value.cells] using hcs
theorem open_agB {H : Type} {enc : TypeId × Value → H} {w : World} {b0 : Nat} {r : Reach} {held : Bool} {v : Value} {d : DataW H} {p : List MemPlace}
    (hv : Value.okWide Try.prog w r b0 22 v) (h : DataW.Trod enc Try.prog w 0 (fun _ => true) held 22 v d p)
    (hsz : Rows.uptoBulk d ≤ 1048576) : ∃ a len cap bs, v = .slice a len cap ∧ Ag w a len cap bs ∧ len ≤ 1048576 := by
  obtain ⟨a, len, cap, rfl⟩ := okWide_slice Try.underlying22 hv
  obtain ⟨fuel, hf⟩ := h
  obtain ⟨a', m, c, bs, hcs, r1⟩ := open_agU hf hsz
  refine ⟨a', m, c, bs, ?_, r1⟩
  simpa [Value.cells] using hcs
end Go.Proofs.Ytkbdkenpblcofaa

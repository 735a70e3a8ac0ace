/- How an item that is handed in reads as data, and a list of items. -/
import Derived.Test.YtkbdkenpblcofaaO
import Derived.Test.YtkbdkenpblcofaaM2
namespace Go.Proofs.Ytkbdkenpblcofaa
open Go.ChangeShapes Go.WideShapes Go.ChangeAt Go.RowKit
set_option linter.unusedVariables false
theorem cellsI : Try.prog.cellsOf 25 = 3 := by kernel_rfl
theorem cells4 : Try.prog.cellsOf 4 = 1 := by kernel_rfl
theorem cellsB : Try.prog.cellsOf 22 = 1 := by kernel_rfl
theorem cellsL : Try.prog.cellsOf 23 = 1 := by kernel_rfl
theorem bytesI : Try.prog.bytesOf 25 = 56 := by kernel_rfl
section
variable {H : Type} {enc : TypeId × Value → H} {w : World} {held : Bool}
theorem open_agF {fuel : Nat} {cs : List Value} {x : DataW H × List MemPlace} (hf : DataW.trod enc Try.prog w 0 (fun _ => true) held fuel 22 cs = some x)
    (hsz : ∀ n ∈ x.1.weights Try.prog 22, n ≤ reachBytes) : ∃ a len cap bs, cs = [.slice a len cap] ∧ Ag w a len cap bs ∧ len ≤ 140737521905664 := by
  rcases open_ints Try.underlying22 Try.underlying5 cells5 hf with ⟨hcs, _⟩ | ⟨p, len, cap, zs, hcs, _, hl, hm, hz, hx, hcell, hwz⟩
  · exact ⟨none, 0, 0, [], hcs, ⟨.inl ⟨rfl, rfl⟩, fun _ => ⟨rfl, rfl⟩, rfl, fun x hx => by cases hx⟩, by omega⟩
  · have hz2 : zs.length = cap := by simpa using hz
    have hsz2 := hsz ((zs.take len).length + (zs.drop len).length) (by
      rw [hx]
      simp only [DataW.weights, Try.underlying22, lits, List.length_map, bytes5, Nat.mul_one]
      exact List.mem_cons_self ..)
    simp only [List.length_take, List.length_drop, reachBytes] at hsz2
    have hlen : (zs.take len).length = len := by rw [List.length_take]; omega
    have hbd : ∀ n ∈ zs.take len, 0 ≤ n ∧ n < 256 := fun n hn => by
      have := bounds_u8 (hwz n (List.mem_of_mem_take hn))
      omega
    refine ⟨some p, len, cap, zs.take len, hcs, ⟨?_, (fun h => by cases h), hlen, hbd⟩, by omega⟩
    by_cases h0 : len = 0
    · subst h0
      exact .inl ⟨rfl, by simp⟩
    · obtain ⟨b, off, spot⟩ := p
      have hc := hcell 0 (by omega)
      have hspot : spot = none := by simpa [Addr.add] using World.cell?_spot hc
      subst hspot
      refine .inr ⟨b, off, rfl, hlen, by omega, hl, hm, fun j hj => ?_⟩
      rw [hlen] at hj
      have := hcell j (by omega)
      rw [addr_add] at this
      rw [this, List.getD, List.getD, List.getElem?_take_of_lt hj]
/-- An item that is read with so much fuel. -/
def OpenI (enc : TypeId × Value → H) (w : World) (held : Bool) (fuel : Nat) : Prop := ∀ (cs : List Value) (x : DataW H × List MemPlace), DataW.trod enc Try.prog w 0 (fun _ => true) held fuel 25 cs = some x →
  (∀ n ∈ x.1.weights Try.prog 25, n ≤ reachBytes) → ∃ t y, cs = [.bool y.l, .slice y.ba y.bn y.bc, .slice y.ia y.m y.ic] ∧ Lies w t y
theorem weights_all {e : TypeId} : ∀ {ds : List (DataW H)} {d : DataW H}, d ∈ ds → ∀ n ∈ d.weights Try.prog e, n ∈ DataW.weightsAll Try.prog e ds
  | [], d, h, _, _ => by cases h
  | d0 :: r, d, h, n, hn => by
    rw [DataW.weightsAll, List.mem_append]
    rcases List.mem_cons.1 h with rfl | h
    · exact .inl hn
    · exact .inr (weights_all h n hn)
theorem open_itemsF {fuel : Nat} (ih : ∀ n, n < fuel → OpenI enc w held n) {cs : List Value} {x : DataW H × List MemPlace} (hf : DataW.trod enc Try.prog w 0 (fun _ => true) held fuel 23 cs = some x)
    (hsz : ∀ n ∈ x.1.weights Try.prog 23, n ≤ reachBytes) : ∃ a m c ts, cs = [.slice a m c] ∧ m = ts.length ∧ m ≤ c ∧ c ≤ maxLen ∧ m ≤ 140737521905664 ∧ LiesAll w ts a 0 := by
  rcases DataW.trod_slice Try.underlying23 hf with ⟨hcs, _⟩ | ⟨p, len, cap, elems, rest, n, hfu, hcs, hx, _, hl, hm, hlen, hel, _, _⟩
  · exact ⟨none, 0, 0, [], hcs, rfl, Nat.le_refl _, by unfold maxLen; omega, by omega, liesAll_nil⟩
  · subst hx
    have hw : (DataW.slice (elems.map (·.1)) (rest.map (·.1))).weights Try.prog 23 = ((elems.map (·.1)).length + (rest.map (·.1)).length) * Try.prog.bytesOf 25 :: (DataW.weightsAll Try.prog 25 (elems.map (·.1)) ++ DataW.weightsAll Try.prog 25 (rest.map (·.1))) := by
      simp only [DataW.weights, Try.underlying23]
    have hszw : ∀ n ∈ (DataW.slice (elems.map (·.1)) (rest.map (·.1))).weights Try.prog 23, n ≤ reachBytes := hsz
    rw [hw] at hszw
    clear hsz
    have hsz1 := hszw _ (List.mem_cons_self ..)
    rw [bytesI, List.length_map, List.length_map, hlen] at hsz1
    unfold reachBytes at hsz1
    have hthing : ∀ i, i < len → ∃ t y, (∀ k, k < 3 → w.cell? ((p.add (i * 3)).add k) = [Value.bool y.l, .slice y.ba y.bn y.bc, .slice y.ia y.m y.ic][k]?) ∧ Lies w t y := by
      intro i hi
      have he := hel i hi
      rw [cellsI, List.getElem?_eq_getElem (by omega), Option.bind_eq_some_iff] at he
      obtain ⟨cs', hc1, hc2⟩ := he
      obtain ⟨_, hc3, hc4⟩ := World.cells?_some hc1
      obtain ⟨t, y, hcs', hli⟩ := ih n (by omega) cs' _ hc2 (fun k hk => hszw k (List.mem_cons_of_mem _ (List.mem_append_left _ (weights_all (List.mem_map_of_mem (List.getElem_mem _)) k hk))))
      refine ⟨t, y, ?_, hli⟩
      rw [hcs'] at hc4
      exact hc4
    have hspot : 0 < len → p.spot = none := by
      intro h
      obtain ⟨_, _, hc, _⟩ := hthing 0 h
      have c0 := hc 0 (by omega)
      simpa [Addr.add] using World.cell?_spot c0
    have hall : ∀ d k, k + d = len → ∃ ts : List T, ts.length = d ∧ LiesAll w ts (some p) k := by
      intro d
      induction d with
      | zero => intro k _; exact ⟨[], rfl, liesAll_nil⟩
      | succ d ihd =>
        intro k hk
        obtain ⟨ts, h1, h2⟩ := ihd (k + 1) (by omega)
        obtain ⟨t, y, hc, hli⟩ := hthing k (by omega)
        refine ⟨t :: ts, by rw [List.length_cons, h1], liesAll_cons.2 ⟨?_, h2⟩⟩
        obtain ⟨g, off, spot⟩ := p
        have hsp : spot = none := hspot (by omega)
        subst hsp
        have c0 := hc 0 (by omega)
        have c1 := hc 1 (by omega)
        have c2 := hc 2 (by omega)
        rw [addr_add, addr_add] at c0 c1 c2
        exact ⟨g, off, y, rfl, c0, c1, c2, hli⟩
    obtain ⟨ts, h1, h2⟩ := hall len 0 (by omega)
    exact ⟨some p, len, cap, ts, hcs, h1.symm, hl, hm, by omega, h2⟩
theorem open_itemF : ∀ fuel, OpenI enc w held fuel := by
  intro fuel
  induction fuel using Nat.strongRecOn with
  | _ fuel ih =>
    intro cs x hf hsz
    obtain ⟨xs, n, hfu, hx, hcl, hxl, hel⟩ := DataW.trod_struct Try.underlying25 hf
    rw [cellsI] at hcl
    have e0 := hel 0 _ rfl
    have e1 := hel 1 _ rfl
    have e2 := hel 2 _ rfl
    have hxl3 : xs.length = 3 := hxl
    obtain ⟨c0, c1, c2, rfl⟩ : ∃ c0 c1 c2, cs = [c0, c1, c2] := by
      match cs, hcl with
      | [a, b, c], _ => exact ⟨a, b, c, rfl⟩
    obtain ⟨x0, x1, x2, rfl⟩ : ∃ x0 x1 x2, xs = [x0, x1, x2] := by
      match xs, hxl3 with
      | [a, b, c], _ => exact ⟨a, b, c, rfl⟩
    subst hx
    have hwt : ∀ (k : Nat), k ∈ x1.1.weights Try.prog 22 ∨ k ∈ x2.1.weights Try.prog 23 → k ≤ reachBytes := by
      intro k hk
      refine hsz k ?_
      show k ∈ (DataW.agg [x0.1, x1.1, x2.1]).weights Try.prog 25
      simp only [DataW.weights, Try.underlying25]
      simp only [List.map, DataW.weightsEach, List.mem_append]
      rcases hk with hk | hk
      · exact .inr (.inl hk)
      · exact .inr (.inr (.inl hk))
    have f0 : DataW.trod enc Try.prog w 0 (fun _ => true) held n 4 [c0] = some x0 := e0
    have f1 : DataW.trod enc Try.prog w 0 (fun _ => true) held n 22 [c1] = some x1 := e1
    have f2 : DataW.trod enc Try.prog w 0 (fun _ => true) held n 23 [c2] = some x2 := e2
    obtain ⟨l, hl, _⟩ := DataW.trod_bool Try.underlying4 f0
    obtain ⟨ba, bn, bc, bs, hb, hag, hbn⟩ := open_agF f1 (fun k hk => hwt k (.inl hk))
    obtain ⟨ia, m, ic, ts, hi, hm, hmc, hcm, hm2, hall⟩ := open_itemsF (fun k hk => ih k (by omega)) f2 (fun k hk => hwt k (.inr hk))
    cases hl
    cases hb
    cases hi
    exact ⟨.mk l bs ts, ⟨l, ba, bn, bc, ia, m, ic⟩, rfl, lies_eq.2 ⟨rfl, hag, hm, hmc, hcm, ⟨hbn, hm2⟩, hall⟩⟩
end
/-- An item that came in, opened. -/
theorem open_item {H : Type} {enc : TypeId × Value → H} {w : World} {b0 : Nat} {r : Reach} {held : Bool} {v : Value} {d : DataW H} {p : List MemPlace}
    (hv : Value.okWide Try.prog w r b0 25 v) (h : DataW.Trod enc Try.prog w 0 (fun _ => true) held 25 v d p)
    (hsz : ∀ n ∈ d.weights Try.prog 25, n ≤ reachBytes) : ∃ t y, v = .agg #[.bool y.l, .slice y.ba y.bn y.bc, .slice y.ia y.m y.ic] ∧ Lies w t y := by
  obtain ⟨cs, rfl, hc⟩ := okWide_struct Try.underlying25 hv
  obtain ⟨fuel, hf⟩ := h
  obtain ⟨t, y, hcs, hli⟩ := open_itemF fuel _ _ hf hsz
  refine ⟨t, y, ?_, hli⟩
  congr 1
  apply Array.ext'
  simpa [Value.cells] using hcs
/-- A list of items that came in, opened. -/
theorem open_items {H : Type} {enc : TypeId × Value → H} {w : World} {b0 : Nat} {r : Reach} {held : Bool} {v : Value} {d : DataW H} {p : List MemPlace}
    (hv : Value.okWide Try.prog w r b0 23 v) (h : DataW.Trod enc Try.prog w 0 (fun _ => true) held 23 v d p)
    (hsz : ∀ n ∈ d.weights Try.prog 23, n ≤ reachBytes) : ∃ a m c ts, v = .slice a m c ∧ m = ts.length ∧ m ≤ c ∧ c ≤ maxLen ∧ m ≤ 140737521905664 ∧ LiesAll w ts a 0 := by
  obtain ⟨a, len, cap, rfl⟩ := okWide_slice Try.underlying23 hv
  obtain ⟨fuel, hf⟩ := h
  obtain ⟨a', m, c, ts, hcs, r1⟩ := open_itemsF (fun k _ => open_itemF k) hf hsz
  refine ⟨a', m, c, ts, ?_, r1⟩
  simpa [Value.cells] using hcs
theorem sized_at {H : Type} {ts : List TypeId} {ds : List (DataW H)} (h : (DataW.weightsEach Try.prog ts ds).all (· ≤ reachBytes) = true) {j : Nat} {t : TypeId} {d : DataW H} (ht : ts[j]? = some t) (hd : ds[j]? = some d) : ∀ n ∈ d.weights Try.prog t, n ≤ reachBytes := by
  intro n hn
  have := List.all_eq_true.1 h n (DataW.weights_mem_each ht hd n hn)
  simpa using this
end Go.Proofs.Ytkbdkenpblcofaa

/- How a slice of bytes that is handed in reads as data: nil, or a row of bytes that takes no more than the form's own reach. -/
import Derived.Test.YtamibjgahcpkcaaG00
import Derived.ProofKit
import Derived.OpenShut
import Derived.ShutString
import Derived.ChangeOld
import Derived.SizedLaws
import Derived.Test.YtamibjgahcpkcaaG11
namespace Go.Proofs.Ytamibjgahcpkcaa
open Go.ChangeShapes Go.WideShapes Go.ChangeAt Go.RowKit
open Go.ChangeMaps (open_string shut_string)
set_option linter.unusedVariables false
set_option maxRecDepth 100000
theorem own : ownKnob Try.prog.godebug = none := by kernel_rfl
theorem laidOut : laidOutB Try.prog = true := by kernel_rfl
theorem cells5 : Try.prog.cellsOf 5 = 1 := by kernel_rfl
theorem bytes5 : Try.prog.bytesOf 5 = 1 := by kernel_rfl
/-- A slice of bytes that came in, opened: its bytes; it takes no more than the reach. -/
theorem open_bytes {H : Type} {enc : TypeId × Value → H} {w : World} {base b0 : Nat} {r : Reach} {held : Bool} {v : Value} {d : DataW H} {p : List MemPlace}
    (hv : Value.okWide Try.prog w r b0 22 v) (h : DataW.Trod enc Try.prog w base (fun _ => true) held 22 v d p)
    (hsz : ∀ elems spare, d = .slice elems spare → (elems.length + spare.length) * Try.prog.bytesOf 5 ≤ reachBytes) :
    ∃ a len cap bs, v = .slice a len cap ∧ In0 w a len cap bs ∧ (a = none → len = 0 ∧ cap = 0) ∧ bs.length = len ∧ (∀ x ∈ bs, 0 ≤ x ∧ x < 256) ∧ len ≤ 140737488351232 := by
  obtain ⟨a, len, cap, rfl⟩ := okWide_slice Try.underlying22 hv
  obtain ⟨fuel, hf⟩ := h
  rcases open_ints Try.underlying22 Try.underlying5 cells5 hf with ⟨hcs, _⟩ | ⟨x, l, c, zs, hcs, _, hl, hm, hz, hx, hcell, hwz⟩
  · simp [Value.cells] at hcs
    obtain ⟨rfl, rfl, rfl⟩ := hcs
    exact ⟨none, 0, 0, [], rfl, .inl ⟨rfl, rfl⟩, fun _ => ⟨rfl, rfl⟩, rfl, (fun x hx => by cases hx), by omega⟩
  · simp [Value.cells] at hcs
    obtain ⟨rfl, rfl, rfl⟩ := hcs
    have hz2 : zs.length = cap := by simpa using hz
    have hsz2 := hsz _ _ (Prod.mk.inj hx).1
    rw [bytes5] at hsz2
    simp only [lits, List.length_map, List.length_take, List.length_drop, reachBytes] at hsz2
    have hlen : (zs.take len).length = len := by rw [List.length_take]; omega
    have hbd : ∀ n ∈ zs.take len, 0 ≤ n ∧ n < 256 := fun n hn => by
      have := bounds_u8 (hwz n (List.mem_of_mem_take hn))
      omega
    refine ⟨some x, len, cap, zs.take len, rfl, ?_, (fun h => by cases h), hlen, hbd, by omega⟩
    by_cases h0 : len = 0
    · subst h0
      exact .inl ⟨rfl, by simp⟩
    · obtain ⟨b, off, spot⟩ := x
      have hc := hcell 0 (by omega)
      have hspot : spot = none := by simpa [Addr.add] using World.cell?_spot hc
      subst hspot
      refine .inr ⟨b, off, rfl, hlen, by omega, hl, hm, fun j hj => ?_⟩
      rw [hlen] at hj
      have := hcell j (by omega)
      rw [addr_add] at this
      rw [this, List.getD, List.getD, List.getElem?_take_of_lt hj]
theorem open_ag {H : Type} {enc : TypeId × Value → H} {w : World} {base b0 : Nat} {r : Reach} {held : Bool} {v : Value} {d : DataW H} {p : List MemPlace}
    (hv : Value.okWide Try.prog w r b0 22 v) (h : DataW.Trod enc Try.prog w base (fun _ => true) held 22 v d p)
    (hsz : ∀ elems spare, d = .slice elems spare → (elems.length + spare.length) * Try.prog.bytesOf 5 ≤ reachBytes) :
    ∃ a len cap bs, v = .slice a len cap ∧ Ag w a len cap bs ∧ len ≤ 140737488351232 := by
  obtain ⟨a, len, cap, bs, h1, h2, h3, h4, h5, h6⟩ := open_bytes hv h hsz
  exact ⟨a, len, cap, bs, h1, ⟨h2, h3, h4, h5⟩, h6⟩
end Go.Proofs.Ytamibjgahcpkcaa
/- How a node that is handed in reads as data: its bytes, its child, its kids. -/
namespace Go.Proofs.Ytamibjgahcpkcaa
open Go.ChangeShapes Go.WideShapes Go.ChangeAt Go.RowKit
set_option linter.unusedVariables false
set_option maxRecDepth 100000
theorem cellsN : Try.prog.cellsOf 29 = 38 := by kernel_rfl
theorem cellsR : Try.prog.cellsOf 26 = 34 := by kernel_rfl
theorem cellsD : Try.prog.cellsOf 24 = 32 := by kernel_rfl
theorem cells3 : Try.prog.cellsOf 3 = 1 := by kernel_rfl
theorem cellsB : Try.prog.cellsOf 22 = 1 := by kernel_rfl
theorem cellsRL : Try.prog.cellsOf 27 = 1 := by kernel_rfl
theorem bytesR : Try.prog.bytesOf 26 = 64 := by kernel_rfl
section
variable {H : Type} {enc : TypeId × Value → H} {w : World} {held : Bool}
theorem open_agF {fuel : Nat} {cs : List Value} {x : DataW H × List MemPlace} (hf : DataW.trod enc Try.prog w 0 (fun _ => true) held fuel 22 cs = some x)
    (hsz : ∀ n ∈ x.1.weights Try.prog 22, n ≤ reachBytes) : ∃ a len cap bs, cs = [.slice a len cap] ∧ Ag w a len cap bs ∧ len ≤ 140737488351232 := by
  rcases open_ints Try.underlying22 Try.underlying5 cells5 hf with ⟨hcs, _⟩ | ⟨p, len, cap, zs, hcs, _, hl, hm, hz, hx, hcell, hwz⟩
  · exact ⟨none, 0, 0, [], hcs, ⟨.inl ⟨rfl, rfl⟩, fun _ => ⟨rfl, rfl⟩, rfl, fun x hx => by cases hx⟩, by omega⟩
  · have hz2 : zs.length = cap := by simpa using hz
    have hsz2 := hsz ((zs.take len).length + (zs.drop len).length) (by
      rw [hx]
      simp only [DataW.weights, Try.underlying22, lits, List.length_map, bytes5, Nat.mul_one]
      exact List.mem_cons_self ..)
    simp only [List.length_take, List.length_drop, reachBytes] at hsz2
    have hlen : (zs.take len).length = len := by rw [List.length_take]; omega
    have hbd : ∀ n ∈ zs.take len, 0 ≤ n ∧ n < 256 := fun n hn => by
      have := bounds_u8 (hwz n (List.mem_of_mem_take hn))
      omega
    refine ⟨some p, len, cap, zs.take len, hcs, ⟨?_, (fun h => by cases h), hlen, hbd⟩, by omega⟩
    by_cases h0 : len = 0
    · subst h0
      exact .inl ⟨rfl, by simp⟩
    · obtain ⟨b, off, spot⟩ := p
      have hc := hcell 0 (by omega)
      have hspot : spot = none := by simpa [Addr.add] using World.cell?_spot hc
      subst hspot
      refine .inr ⟨b, off, rfl, hlen, by omega, hl, hm, fun j hj => ?_⟩
      rw [hlen] at hj
      have := hcell j (by omega)
      rw [addr_add] at this
      rw [this, List.getD, List.getD, List.getElem?_take_of_lt hj]
theorem open_digF {fuel : Nat} {cs : List Value} {x : DataW H × List MemPlace} (hf : DataW.trod enc Try.prog w 0 (fun _ => true) held fuel 24 cs = some x) : ∃ ds : List Int, cs = ds.map (Value.int .u8) ∧ ds.length = 32 ∧ isB ds := by
  obtain ⟨ys, m, _, _, hlen, hyl, hel⟩ := DataW.trod_array Try.underlying24 hf
  rw [cellsD] at hlen
  have hc : ∀ i, i < 32 → ∃ n : Int, cs[i]? = some (.int .u8 n) ∧ 0 ≤ n ∧ n < 256 := by
    intro i hi
    have hy : i < ys.length := by omega
    have e := hel i hi
    rw [cells5, List.getElem?_eq_getElem hy, Nat.mul_one] at e
    obtain ⟨n, hn, _, hwf⟩ := DataW.trod_int Try.underlying5 e
    have h0 : ((cs.drop i).take 1)[0]? = some (.int .u8 n) := by rw [hn]; rfl
    rw [List.getElem?_take_of_lt (by omega), List.getElem?_drop] at h0
    exact ⟨n, by simpa using h0, by have := bounds_u8 hwf; omega, by have := bounds_u8 hwf; omega⟩
  refine ⟨cs.map fun v => match v with | .int _ n => n | _ => 0, ?_, by simp [hlen], ?_⟩
  · apply List.ext_getElem
    · simp
    · intro i h1 h2
      obtain ⟨n, hn, _⟩ := hc i (by omega)
      have e := (List.getElem?_eq_some_iff.1 hn).2
      simp only [List.getElem_map]
      rw [e]
  · intro x hx
    obtain ⟨v, hv, rfl⟩ := List.mem_map.1 hx
    obtain ⟨i, hi, he⟩ := List.mem_iff_getElem.1 hv
    obtain ⟨n, hn, h0, h1⟩ := hc i (by omega)
    have e := (List.getElem?_eq_some_iff.1 hn).2
    rw [← he, e]
    exact ⟨h0, h1⟩
theorem weights_all {e : TypeId} : ∀ {ds : List (DataW H)} {d : DataW H}, d ∈ ds → ∀ n ∈ d.weights Try.prog e, n ∈ DataW.weightsAll Try.prog e ds
  | [], d, h, _, _ => by cases h
  | d0 :: r, d, h, n, hn => by
    rw [DataW.weightsAll, List.mem_append]
    rcases List.mem_cons.1 h with rfl | h
    · exact .inl hn
    · exact .inr (weights_all h n hn)
theorem split3 {cs : List Value} {a b : Nat} (h : cs.length = a + b + 1) : cs = cs.take a ++ ((cs.drop a).take b ++ (cs.drop (a + b)).take 1) := by
  have h1 : (cs.drop (a + b)).take 1 = cs.drop (a + b) := List.take_of_length_le (by simp [h])
  rw [h1, show cs.drop (a + b) = (cs.drop a).drop b from by rw [List.drop_drop], List.take_append_drop, List.take_append_drop]
/-- A reference that is read with so much fuel. -/
theorem open_refF {fuel : Nat} {cs : List Value} {x : DataW H × List MemPlace} (hf : DataW.trod enc Try.prog w 0 (fun _ => true) held fuel 26 cs = some x)
    (hsz : ∀ n ∈ x.1.weights Try.prog 26, n ≤ reachBytes) : ∃ (y : RV) (r : PR), cs = y.cells ∧ RefAt (fun _ => True) w y r := by
  obtain ⟨xs, n, hfu, hx, hcl, hxl, hel⟩ := DataW.trod_struct Try.underlying26 hf
  rw [cellsR] at hcl
  have e0 := hel 0 _ rfl
  have e1 := hel 1 _ rfl
  have e2 := hel 2 _ rfl
  have hxl3 : xs.length = 3 := hxl
  obtain ⟨x0, x1, x2, rfl⟩ : ∃ x0 x1 x2, xs = [x0, x1, x2] := by
    match xs, hxl3 with
    | [a, b, c], _ => exact ⟨a, b, c, rfl⟩
  subst hx
  have f0 : DataW.trod enc Try.prog w 0 (fun _ => true) held n 3 ((cs.drop 0).take (Try.prog.cellsOf 3)) = some x0 := e0
  have f1 : DataW.trod enc Try.prog w 0 (fun _ => true) held n 24 ((cs.drop 1).take (Try.prog.cellsOf 24)) = some x1 := e1
  have f2 : DataW.trod enc Try.prog w 0 (fun _ => true) held n 22 ((cs.drop 33).take (Try.prog.cellsOf 22)) = some x2 := e2
  rw [cells3, List.drop_zero] at f0
  rw [cellsD] at f1
  rw [cellsB] at f2
  obtain ⟨k, hk, _, _⟩ := DataW.trod_int Try.underlying3 f0
  obtain ⟨ds, hd, hdl, hdb⟩ := open_digF f1
  obtain ⟨a, m, c, bs, hb, hag, hm⟩ := open_agF f2 (fun k hk => hsz k (by
    show k ∈ (DataW.agg [x0.1, x1.1, x2.1]).weights Try.prog 26
    simp only [DataW.weights, Try.underlying26]
    simp only [List.map, DataW.weightsEach, List.mem_append]
    exact .inr (.inr (.inl hk))))
  refine ⟨⟨k, ds, a, m, c⟩, ⟨k, ds, bs⟩, ?_, rfl, rfl, hdb, hdl, hag, hm, fun _ _ _ _ => trivial⟩
  rw [split3 (cs := cs) (a := 1) (b := 32) (by omega), hk, hd, hb]
  rfl
theorem open_kidsF {fuel : Nat} {cs : List Value} {x : DataW H × List MemPlace} (hf : DataW.trod enc Try.prog w 0 (fun _ => true) held fuel 27 cs = some x)
    (hsz : ∀ n ∈ x.1.weights Try.prog 27, n ≤ reachBytes) : ∃ a m c ks, cs = [.slice a m c] ∧ (m = ks.length ∧ m ≤ c ∧ c ≤ maxLen ∧ m ≤ 2199023255488 ∧ (a = none → m = 0 ∧ c = 0)) ∧ KidsAt (fun _ => True) w a ks := by
  rcases DataW.trod_slice Try.underlying27 hf with ⟨hcs, _⟩ | ⟨p, len, cap, elems, rest, n, hfu, hcs, hx, _, hl, hm, hlen, hel, _, _⟩
  · exact ⟨none, 0, 0, [], hcs, ⟨rfl, Nat.le_refl _, by unfold maxLen; omega, by omega, fun _ => ⟨rfl, rfl⟩⟩, fun j r hr => by simp at hr⟩
  · subst hx
    have hw : (DataW.slice (elems.map (·.1)) (rest.map (·.1))).weights Try.prog 27 = ((elems.map (·.1)).length + (rest.map (·.1)).length) * Try.prog.bytesOf 26 :: (DataW.weightsAll Try.prog 26 (elems.map (·.1)) ++ DataW.weightsAll Try.prog 26 (rest.map (·.1))) := by
      simp only [DataW.weights, Try.underlying27]
    have hszw : ∀ n ∈ (DataW.slice (elems.map (·.1)) (rest.map (·.1))).weights Try.prog 27, n ≤ reachBytes := hsz
    rw [hw] at hszw
    clear hsz
    have hsz1 := hszw _ (List.mem_cons_self ..)
    rw [bytesR, List.length_map, List.length_map, hlen] at hsz1
    unfold reachBytes at hsz1
    have hthing : ∀ i, i < len → ∃ (y : RV) (r : PR), (∀ k, k < 34 → w.cell? ((p.add (i * 34)).add k) = y.cells[k]?) ∧ RefAt (fun _ => True) w y r := by
      intro i hi
      have he := hel i hi
      rw [cellsR, List.getElem?_eq_getElem (by omega), Option.bind_eq_some_iff] at he
      obtain ⟨cs', hc1, hc2⟩ := he
      obtain ⟨_, hc3, hc4⟩ := World.cells?_some hc1
      obtain ⟨y, r, hcs', hr⟩ := open_refF hc2 (fun k hk => hszw k (List.mem_cons_of_mem _ (List.mem_append_left _ (weights_all (List.mem_map_of_mem (List.getElem_mem _)) k hk))))
      refine ⟨y, r, ?_, hr⟩
      rw [hcs'] at hc4
      exact hc4
    have hspot : 0 < len → p.spot = none := by
      intro h
      obtain ⟨y, r, hc, hr⟩ := hthing 0 h
      have c0 := hc 0 (by omega)
      rw [show y.cells[0]? = some (.int .i64 y.k) from rfl] at c0
      simpa [Addr.add] using World.cell?_spot c0
    have hall : ∀ d k, k + d = len → ∃ ks : List PR, ks.length = d ∧ ∀ j r, ks[j]? = some r → ∃ g off y, (some p : Option Addr) = some ⟨g, off, none⟩ ∧ w.rangeAt g (off + (k + j) * 34) y.cells ∧ RefAt (fun _ => True) w y r := by
      intro d
      induction d with
      | zero => intro k _; exact ⟨[], rfl, fun j r hr => by simp at hr⟩
      | succ d ihd =>
        intro k hk
        obtain ⟨ks, h1, h2⟩ := ihd (k + 1) (by omega)
        obtain ⟨y, r, hc, hr⟩ := hthing k (by omega)
        refine ⟨r :: ks, by rw [List.length_cons, h1], fun j s hs => ?_⟩
        cases j with
        | zero =>
          simp at hs
          subst hs
          obtain ⟨g, off, spot⟩ := p
          have hsp : spot = none := hspot (by omega)
          subst hsp
          refine ⟨g, off, y, rfl, fun i u hu => ?_, hr⟩
          have hi : i < 34 := by have := (List.getElem?_eq_some_iff.1 hu).1; rw [RV.len hr.len] at this; exact this
          have := hc i hi
          rw [addr_add, addr_add, hu] at this
          exact this
        | succ j =>
          obtain ⟨g, off, y', e, h3, h4⟩ := h2 j s (by simpa using hs)
          rw [show k + 1 + j = k + (j + 1) from by omega] at h3
          exact ⟨g, off, y', e, h3, h4⟩
    obtain ⟨ks, h1, h2⟩ := hall len 0 (by omega)
    refine ⟨some p, len, cap, ks, hcs, ⟨h1.symm, hl, hm, by omega, fun h => by cases h⟩, fun j r hr => ?_⟩
    obtain ⟨g, off, y, e, h3, h4⟩ := h2 j r hr
    rw [Nat.zero_add] at h3
    exact ⟨g, off, y, e, trivial, h3, h4⟩
theorem split5 {cs : List Value} (h : cs.length = 38) : cs = (cs.drop 0).take 1 ++ ((cs.drop 1).take 1 ++ ((cs.drop 2).take 1 ++ ((cs.drop 3).take 34 ++ (cs.drop 37).take 1))) := by
  have h4 : (cs.drop 37).take 1 = (cs.drop 3).drop 34 := by rw [List.drop_drop]; exact List.take_of_length_le (by simp [h])
  have h3 : (cs.drop 3).take 34 ++ (cs.drop 37).take 1 = (cs.drop 2).drop 1 := by rw [h4, List.take_append_drop, List.drop_drop]
  have h2 : (cs.drop 2).take 1 ++ (cs.drop 2).drop 1 = (cs.drop 1).drop 1 := by rw [List.take_append_drop, List.drop_drop]
  have h1 : (cs.drop 1).take 1 ++ (cs.drop 1).drop 1 = (cs.drop 0).drop 1 := by rw [List.take_append_drop, List.drop_drop]
  rw [h3, h2, h1, List.take_append_drop, List.drop_zero]
theorem open_nodeF {fuel : Nat} {cs : List Value} {x : DataW H × List MemPlace} (hf : DataW.trod enc Try.prog w 0 (fun _ => true) held fuel 29 cs = some x)
    (hsz : ∀ n ∈ x.1.weights Try.prog 29, n ≤ reachBytes) : ∃ (y : NV) (n : PN), cs = y.cells ∧ NodeAt (fun _ => True) w y n := by
  obtain ⟨xs, n, hfu, hx, hcl, hxl, hel⟩ := DataW.trod_struct Try.underlying29 hf
  rw [cellsN] at hcl
  have e0 := hel 0 _ rfl
  have e1 := hel 1 _ rfl
  have e2 := hel 2 _ rfl
  have e3 := hel 3 _ rfl
  have e4 := hel 4 _ rfl
  have hxl5 : xs.length = 5 := hxl
  obtain ⟨x0, x1, x2, x3, x4, rfl⟩ : ∃ x0 x1 x2 x3 x4, xs = [x0, x1, x2, x3, x4] := by
    match xs, hxl5 with
    | [a, b, c, d, e], _ => exact ⟨a, b, c, d, e, rfl⟩
  subst hx
  have f0 : DataW.trod enc Try.prog w 0 (fun _ => true) held n 3 ((cs.drop 0).take (Try.prog.cellsOf 3)) = some x0 := e0
  have f1 : DataW.trod enc Try.prog w 0 (fun _ => true) held n 22 ((cs.drop 1).take (Try.prog.cellsOf 22)) = some x1 := e1
  have f2 : DataW.trod enc Try.prog w 0 (fun _ => true) held n 22 ((cs.drop 2).take (Try.prog.cellsOf 22)) = some x2 := e2
  have f3 : DataW.trod enc Try.prog w 0 (fun _ => true) held n 26 ((cs.drop 3).take (Try.prog.cellsOf 26)) = some x3 := e3
  have f4 : DataW.trod enc Try.prog w 0 (fun _ => true) held n 27 ((cs.drop 37).take (Try.prog.cellsOf 27)) = some x4 := e4
  rw [cells3] at f0
  rw [cellsB] at f1 f2
  rw [cellsR] at f3
  rw [cellsRL] at f4
  have hwt : ∀ (k : Nat), (k ∈ x1.1.weights Try.prog 22 ∨ k ∈ x2.1.weights Try.prog 22 ∨ k ∈ x3.1.weights Try.prog 26 ∨ k ∈ x4.1.weights Try.prog 27) → k ≤ reachBytes := by
    intro k hk
    refine hsz k ?_
    show k ∈ (DataW.agg [x0.1, x1.1, x2.1, x3.1, x4.1]).weights Try.prog 29
    simp only [DataW.weights, Try.underlying29]
    simp only [List.map, DataW.weightsEach, List.mem_append]
    rcases hk with hk | hk | hk | hk
    · exact .inr (.inl hk)
    · exact .inr (.inr (.inl hk))
    · exact .inr (.inr (.inr (.inl hk)))
    · exact .inr (.inr (.inr (.inr (.inl hk))))
  obtain ⟨k, hk, _, _⟩ := DataW.trod_int Try.underlying3 f0
  obtain ⟨pa, pn, pc, ps, hp, hpag, hpn⟩ := open_agF f1 (fun k hk => hwt k (.inl hk))
  obtain ⟨va, vn, vc, vs, hv, hvag, hvn⟩ := open_agF f2 (fun k hk => hwt k (.inr (.inl hk)))
  obtain ⟨y, r, hc, hra⟩ := open_refF f3 (fun k hk => hwt k (.inr (.inr (.inl hk))))
  obtain ⟨ka, kn, kc, ks, hkk, hkm, hks⟩ := open_kidsF f4 (fun k hk => hwt k (.inr (.inr (.inr hk))))
  refine ⟨⟨k, pa, pn, pc, va, vn, vc, y, ka, kn, kc⟩, ⟨k, ps, vs, r, ks⟩, ?_, rfl, ⟨hpag, hpn, fun _ _ _ _ => trivial⟩, ⟨hvag, hvn, fun _ _ _ _ => trivial⟩, hra, hkm, hks⟩
  rw [split5 (cs := cs) hcl, hk, hp, hv, hc, hkk]
  rfl
end
/-- A node that came in, opened. -/
theorem open_node {H : Type} {enc : TypeId × Value → H} {w : World} {b0 : Nat} {r : Reach} {held : Bool} {v : Value} {d : DataW H} {p : List MemPlace}
    (hv : Value.okWide Try.prog w r b0 29 v) (h : DataW.Trod enc Try.prog w 0 (fun _ => true) held 29 v d p)
    (hsz : ∀ n ∈ d.weights Try.prog 29, n ≤ reachBytes) : ∃ (y : NV) (n : PN), v = .agg y.cells.toArray ∧ NodeAt (fun _ => True) w y n := by
  obtain ⟨cs, rfl, hc⟩ := okWide_struct Try.underlying29 hv
  obtain ⟨fuel, hf⟩ := h
  obtain ⟨y, n, hcs, hn⟩ := open_nodeF hf hsz
  refine ⟨y, n, ?_, hn⟩
  congr 1
  apply Array.ext'
  simpa [Value.cells] using hcs
theorem sized_at {H : Type} {ts : List TypeId} {ds : List (DataW H)} (h : (DataW.weightsEach Try.prog ts ds).all (· ≤ reachBytes) = true) {j : Nat} {t : TypeId} {d : DataW H} (ht : ts[j]? = some t) (hd : ds[j]? = some d) : ∀ n ∈ d.weights Try.prog t, n ≤ reachBytes := by
  intro n hn
  have := List.all_eq_true.1 h n (DataW.weights_mem_each ht hd n hn)
  simpa using this
end Go.Proofs.Ytamibjgahcpkcaa

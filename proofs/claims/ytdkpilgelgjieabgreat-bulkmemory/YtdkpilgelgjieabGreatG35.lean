/- How a list of keys and values that is handed in reads as data, and how many they are. -/
import Derived.Test.YtdkpilgelgjieabGreatG34
import Derived.Test.YtdkpilgelgjieabGreatG18
set_option linter.unusedVariables false
set_option maxRecDepth 100000
namespace Go.Proofs.YtdkpilgelgjieabGreat
open Go.ChangeShapes Go.WideShapes Go.ChangeAt Go.RowKit
theorem Ztq : Tryz.prog.cellsOf 28 = 2 := by kernel_rfl
theorem Zw2 : Tryz.prog.cellsOf 26 = 1 := by kernel_rfl
theorem Zyq : Tryz.prog.bytesOf 28 = 48 := by kernel_rfl
structure Pax where
 ka : Option Addr
 kn : Nat
 kc : Nat
 va : Option Addr
 vn : Nat
 vc : Nat
 k : List Int
 x : List Int
def Pax.pv (y : Pax) : Value × Value := (.slice y.ka y.kn y.kc, .slice y.va y.vn y.vc)
section
variable {H : Type} {enc : TypeId × Value → H} {w : World} {held : Bool}
theorem Zoq {fuel : Nat} {cs : List Value} {x : DataW H × List MemPlace} (hf : DataW.trod enc Tryz.prog w 0 (fun _ => true) held fuel 26 cs = some x)
  (hsz : ∀ n ∈ x.1.weights Tryz.prog 26, n <= reachBytes) : ∃ a len cap bs, cs = [.slice a len cap] /\ Ag w a len cap bs /\ len <= 140737488351232 := by
 rcases open_ints Tryz.underlying26 Tryz.underlying5 Z0a hf with ⟨hcs, _⟩ | ⟨p, len, cap, zs, hcs, _, hl, hm, hz, hx, hcell, hwz⟩
 ·exact ⟨none, 0, 0, [], hcs, ⟨.inl ⟨rfl, rfl⟩, fun _ => ⟨rfl, rfl⟩, rfl, fun x hx => by cases hx⟩, by omega⟩
 ·have hz2 : zs.length = cap := by simpa using hz
  have hsz2 := hsz ((zs.take len).length + (zs.drop len).length) (by
   rw [hx]
   simp only [DataW.weights, Tryz.underlying26, lits, List.length_map, Z0b, Nat.mul_one]
   exact List.mem_cons_self ..)
  simp only [List.length_take, List.length_drop, reachBytes] at hsz2
  have hlen : (zs.take len).length = len := by rw [List.length_take]; omega
  have hbd : ∀ n ∈ zs.take len, 0 <= n /\ n < 256 := fun n hn => by
   have := bounds_u8 (hwz n (List.mem_of_mem_take hn))
   omega
  refine ⟨some p, len, cap, zs.take len, hcs, ⟨?_, (fun h => by cases h), hlen, hbd⟩, by omega⟩
  by_cases h0 : len = 0
  ·subst h0
   exact .inl ⟨rfl, by simp⟩
  ·obtain ⟨b, off, spot⟩ := p
   have hc := hcell 0 (by omega)
   have hspot : spot = none := by simpa [Addr.add] using World.cell?_spot hc
   subst hspot
   refine .inr ⟨b, off, rfl, hlen, by omega, hl, hm, fun j hj => ?_⟩
   rw [hlen] at hj
   have := hcell j (by omega)
   rw [Zay] at this
   rw [this, List.getD, List.getD, List.getElem?_take_of_lt hj]
theorem Zhx {e : TypeId} : ∀ {ds : List (DataW H)} {d : DataW H}, d ∈ ds -> ∀ n ∈ d.weights Tryz.prog e, n ∈ DataW.weightsAll Tryz.prog e ds
 | [], d, h, _, _ => by cases h
 | d0 :: r, d, h, n, hn => by
  rw [DataW.weightsAll, List.mem_append]
  rcases List.mem_cons.1 h with rfl | h
  ·exact .inl hn
  ·exact .inr (Zhx h n hn)
theorem Zxf {cs : List Value} (h : cs.length = 2) : cs = (cs.drop 0).take 1 ++ (cs.drop 1).take 1 := by
 match cs, h with
 | [a, b], _ => rfl
theorem Zqd {fuel : Nat} {cs : List Value} {x : DataW H × List MemPlace} (hf : DataW.trod enc Tryz.prog w 0 (fun _ => true) held fuel 28 cs = some x)
  (hsz : ∀ n ∈ x.1.weights Tryz.prog 28, n <= reachBytes) : ∃ y : Pax, cs = [y.pv.1, y.pv.2] /\ Ag w y.ka y.kn y.kc y.k /\ Ag w y.va y.vn y.vc y.x /\ y.kn <= 140737488351232 /\ y.vn <= 140737488351232 := by
 obtain ⟨xs, n, hfu, hx, hcl, hxl, hel⟩ := DataW.trod_struct Tryz.underlying28 hf
 rw [Ztq] at hcl
 have e1 := hel 0 _ rfl
 have e2 := hel 1 _ rfl
 have hxl3 : xs.length = 2 := hxl
 obtain ⟨x1, x2, rfl⟩ : ∃ x1 x2, xs = [x1, x2] := by
  match xs, hxl3 with
  | [a, b], _ => exact ⟨a, b, rfl⟩
 subst hx
 have f1 : DataW.trod enc Tryz.prog w 0 (fun _ => true) held n 26 ((cs.drop 0).take (Tryz.prog.cellsOf 26)) = some x1 := e1
 have f2 : DataW.trod enc Tryz.prog w 0 (fun _ => true) held n 26 ((cs.drop 1).take (Tryz.prog.cellsOf 26)) = some x2 := e2
 rw [Zw2] at f1
 rw [Zw2] at f2
 obtain ⟨a1, m1, c1, b1, hb1, hag1, hl1⟩ := Zoq f1 (fun k hk => hsz k (by
  show k ∈ (DataW.agg [x1.1, x2.1]).weights Tryz.prog 28
  simp only [DataW.weights, Tryz.underlying28]
  simp only [List.map, DataW.weightsEach, List.mem_append]
  exact .inl hk))
 obtain ⟨a2, m2, c2, b2, hb2, hag2, hl2⟩ := Zoq f2 (fun k hk => hsz k (by
  show k ∈ (DataW.agg [x1.1, x2.1]).weights Tryz.prog 28
  simp only [DataW.weights, Tryz.underlying28]
  simp only [List.map, DataW.weightsEach, List.mem_append]
  exact .inr (.inl hk)))
 refine ⟨⟨a1, m1, c1, a2, m2, c2, b1, b2⟩, ?_, hag1, hag2, hl1, hl2⟩
 rw [Zxf (cs := cs) hcl, hb1, hb2]
 rfl
theorem Znk {fuel : Nat} {cs : List Value} {x : DataW H × List MemPlace} (hf : DataW.trod enc Tryz.prog w 0 (fun _ => true) held fuel 22 cs = some x)
  (hsz : ∀ n ∈ x.1.weights Tryz.prog 22, n <= reachBytes) : ∃ a m c vs l, cs = [.slice a m c] /\ PAt (fun _ => True) w a m c vs l /\ m <= 2932031007317 /\ ∀ e ∈ l, e.1.length <= 140737488351232 /\ e.2.length <= 140737488351232 := by
 rcases DataW.trod_slice Tryz.underlying22 hf with ⟨hcs, _⟩ | ⟨p, len, cap, elems, rest, n, hfu, hcs, hx, _, hl, hm, hlen, hel, _, _⟩
 ·exact ⟨none, 0, 0, [], [], hcs, ⟨rfl, rfl, Nat.le_refl _, fun _ => ⟨rfl, rfl⟩, fun j u hj => by simp [flatP] at hj, fun j p e h => by simp at h, fun x hx => by cases hx⟩, by omega, fun e he => by cases he⟩
 ·subst hx
  have hw : (DataW.slice (elems.map (·.1)) (rest.map (·.1))).weights Tryz.prog 22 = ((elems.map (·.1)).length + (rest.map (·.1)).length) * Tryz.prog.bytesOf 28 :: (DataW.weightsAll Tryz.prog 28 (elems.map (·.1)) ++ DataW.weightsAll Tryz.prog 28 (rest.map (·.1))) := by
   simp only [DataW.weights, Tryz.underlying22]
  have hszw : ∀ n ∈ (DataW.slice (elems.map (·.1)) (rest.map (·.1))).weights Tryz.prog 22, n <= reachBytes := hsz
  rw [hw] at hszw
  clear hsz
  have hsz1 := hszw _ (List.mem_cons_self ..)
  rw [Zyq, List.length_map, List.length_map, hlen] at hsz1
  unfold reachBytes at hsz1
  have hthing : ∀ i, i < len -> ∃ y : Pax, (∀ k, k < 2 -> w.cell? ((p.add (i * 2)).add k) = [y.pv.1, y.pv.2][k]?) /\ Ag w y.ka y.kn y.kc y.k /\ Ag w y.va y.vn y.vc y.x /\ y.kn <= 140737488351232 /\ y.vn <= 140737488351232 := by
   intro i hi
   have he := hel i hi
   rw [Ztq, List.getElem?_eq_getElem (by omega), Option.bind_eq_some_iff] at he
   obtain ⟨cs', hc1, hc2⟩ := he
   obtain ⟨_, hc3, hc4⟩ := World.cells?_some hc1
   obtain ⟨y, hcs', hr⟩ := Zqd hc2 (fun k hk => hszw k (List.mem_cons_of_mem _ (List.mem_append_left _ (Zhx (List.mem_map_of_mem (List.getElem_mem _)) k hk))))
   refine ⟨y, ?_, hr⟩
   rw [hcs'] at hc4
   exact hc4
  have hspot : 0 < len -> p.spot = none := by
   intro h
   obtain ⟨y, hc, hr⟩ := hthing 0 h
   have c0 := hc 0 (by omega)
   rw [show [y.pv.1, y.pv.2][0]? = some y.pv.1 from rfl] at c0
   simpa [Addr.add] using World.cell?_spot c0
  have hall : ∀ d k, k + d = len -> ∃ ks : List Pax, ks.length = d /\ (∀ j u, (flatP (ks.map Pax.pv))[j]? = some u -> ∃ g off, (some p : Option Addr) = some ⟨g, off, none⟩ /\ w.cell? ⟨g, off + k * 2 + j, none⟩ = some u) /\ ∀ y ∈ ks, Ag w y.ka y.kn y.kc y.k /\ Ag w y.va y.vn y.vc y.x /\ y.kn <= 140737488351232 /\ y.vn <= 140737488351232 := by
   intro d
   induction d with
   | zero => intro k _; exact ⟨[], rfl, (fun j r hr => by simp [flatP] at hr), fun x hx => by cases hx⟩
   | succ d ihd =>
    intro k hk
    obtain ⟨ks, h1, h2, h3⟩ := ihd (k + 1) (by omega)
    obtain ⟨y, hc, hr⟩ := hthing k (by omega)
    refine ⟨y :: ks, by rw [List.length_cons, h1], fun j u hu => ?_, fun x hx => ?_⟩
    ·obtain ⟨g, off, spot⟩ := p
     have hsp : spot = none := hspot (by omega)
     subst hsp
     refine ⟨g, off, rfl, ?_⟩
     have hu2 : ([y.pv.1, y.pv.2] ++ flatP (ks.map Pax.pv))[j]? = some u := hu
     match j, hu2 with
     | 0, hu2 =>
      have := hc 0 (by omega)
      rw [Zay, Zay] at this
      exact this.trans hu2
     | 1, hu2 =>
      have := hc 1 (by omega)
      rw [Zay, Zay] at this
      exact this.trans hu2
     | j + 2, hu2 =>
      obtain ⟨g', off', e, h4⟩ := h2 j u (by simpa using hu2)
      cases e
      rw [show off + k * 2 + (j + 2) = off + (k + 1) * 2 + j from by omega]
      exact h4
    ·rcases List.mem_cons.1 hx with rfl | hx
     ·exact hr
     ·exact h3 x hx
  obtain ⟨ks, h1, h2, h3⟩ := hall len 0 (by omega)
  refine ⟨some p, len, cap, ks.map Pax.pv, ks.map (fun y => (y.k, y.x)), hcs, ⟨by rw [List.length_map, h1], by rw [List.length_map, h1], hl, (fun e => by cases e), fun j u hu => ?_, fun j q e hq he => ?_, fun _ _ _ => trivial⟩, by omega, fun e he => ?_⟩
  case refine_3 =>
   obtain ⟨y, hy, rfl⟩ := List.mem_map.1 he
   obtain ⟨q1, q2, q3, q4⟩ := h3 y hy
   exact ⟨by rw [q1.l]; exact q3, by rw [q2.l]; exact q4⟩
  ·obtain ⟨g, off, e, h4⟩ := h2 j u hu
   exact ⟨g, off, e, by rw [show off + j = off + 0 * 2 + j from by omega]; exact h4⟩
  ·rw [List.getElem?_map] at hq he
   obtain ⟨y, hy, rfl⟩ := Option.map_eq_some_iff.1 hq
   rw [hy] at he
   cases he
   have hm := h3 y (List.mem_of_getElem? hy)
   exact ⟨_, _, _, _, _, _, rfl, rfl, ⟨hm.1, fun _ _ _ => trivial⟩, ⟨hm.2.1, fun _ _ _ => trivial⟩⟩
end
theorem Zqc {H : Type} {enc : TypeId × Value -> H} {w : World} {b0 : Nat} {r : Reach} {held : Bool} {v : Value} {d : DataW H} {p : List MemPlace}
  (hv : Value.okWide Tryz.prog w r b0 22 v) (h : DataW.Trod enc Tryz.prog w 0 (fun _ => true) held 22 v d p)
  (hsz : ∀ n ∈ d.weights Tryz.prog 22, n <= reachBytes) : ∃ a m c vs l, v = .slice a m c /\ PAt (fun _ => True) w a m c vs l /\ m <= 2932031007317 /\ ∀ e ∈ l, e.1.length <= 140737488351232 /\ e.2.length <= 140737488351232 := by
 obtain ⟨a, len, cap, rfl⟩ := okWide_slice Tryz.underlying22 hv
 obtain ⟨fuel, hf⟩ := h
 obtain ⟨a', m, c, vs, l, hcs, hx⟩ := Znk hf hsz
 simp [Value.cells] at hcs
 obtain ⟨rfl, rfl, rfl⟩ := hcs
 exact ⟨_, _, _, vs, l, rfl, hx⟩
theorem Zut {H : Type} {ts : List TypeId} {ds : List (DataW H)} (h : (DataW.weightsEach Tryz.prog ts ds).all (· <= reachBytes) = true) {j : Nat} {t : TypeId} {d : DataW H} (ht : ts[j]? = some t) (hd : ds[j]? = some d) : ∀ n ∈ d.weights Tryz.prog t, n <= reachBytes := by
 intro n hn
 have := List.all_eq_true.1 h n (DataW.weights_mem_each ht hd n hn)
 simpa using this
end Go.Proofs.YtdkpilgelgjieabGreat

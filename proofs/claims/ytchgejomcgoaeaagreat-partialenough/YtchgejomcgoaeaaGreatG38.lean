/- How a digest, a list of byte strings and a list of calls that are handed in read as data. -/
import Derived.Test.YtchgejomcgoaeaaGreatG37
set_option linter.unusedVariables false
set_option maxRecDepth 100000
namespace Go.Proofs.YtchgejomcgoaeaaGreat
open Go.ChangeShapes Go.WideShapes Go.ChangeAt Go.RowKit
variable {H : Type} {d : DataW H} {w : World} {r : Reach} {base b0 : Nat} {held : Bool} {p : List MemPlace}
theorem Zqu : Tryz.prog.cellsOf 31 = 3 := by kernel_rfl
theorem Zym : Tryz.prog.cellsOf 3 = 1 := by kernel_rfl
theorem Zwj : Tryz.prog.bytesOf 31 = 56 := by kernel_rfl
theorem Zyl : Tryz.prog.cellsOf 23 = 32 := by kernel_rfl
theorem Zqv : Tryz.prog.cellsOf 29 = 1 := by kernel_rfl
section
variable {H : Type} {enc : TypeId × Value → H} {w : World} {held : Bool}
theorem Zio {fuel : Nat} {cs : List Value} {x : DataW H × List MemPlace} (hf : DataW.trod enc Tryz.prog w 0 (fun _ => true) held fuel 29 cs = some x)
    (hsz : ∀ n ∈ x.1.weights Tryz.prog 29, n ≤ reachBytes) : ∃ a len cap bs, cs = [.slice a len cap] ∧ Ag w a len cap bs ∧ len ≤ 140737488351232 := by
  rcases open_ints Tryz.underlying29 Tryz.underlying5 Zue hf with ⟨hcs, _⟩ | ⟨p, len, cap, zs, hcs, _, hl, hm, hz, hx, hcell, hwz⟩
  · exact ⟨none, 0, 0, [], hcs, ⟨.inl ⟨rfl, rfl⟩, fun _ => ⟨rfl, rfl⟩, rfl, fun x hx => by cases hx⟩, by omega⟩
  · have hz2 : zs.length = cap := by simpa using hz
    have hsz2 := hsz ((zs.take len).length + (zs.drop len).length) (by
      rw [hx]
      simp only [DataW.weights, Tryz.underlying29, lits, List.length_map, Zyn, Nat.mul_one]
      exact List.mem_cons_self ..)
    simp only [List.length_take, List.length_drop, reachBytes] at hsz2
    have hlen : (zs.take len).length = len := by rw [List.length_take]; omega
    have hbd : ∀ n ∈ zs.take len, 0 ≤ n ∧ n < 256 := fun n hn => by
      have := bounds_u8 (hwz n (List.mem_of_mem_take hn))
      omega
    refine ⟨some p, len, cap, zs.take len, hcs, ⟨?_, (fun h => by cases h), hlen, hbd⟩, by omega⟩
    by_cases h0 : len = 0
    · subst h0
      exact .inl ⟨rfl, by simp⟩
    · obtain ⟨b, off, spot⟩ := p
      have hc := hcell 0 (by omega)
      have hspot : spot = none := by simpa [Addr.add] using World.cell?_spot hc
      subst hspot
      refine .inr ⟨b, off, rfl, hlen, by omega, hl, hm, fun j hj => ?_⟩
      rw [hlen] at hj
      have := hcell j (by omega)
      rw [Zbb] at this
      rw [this, List.getD, List.getD, List.getElem?_take_of_lt hj]
theorem Zd9 {e : TypeId} : ∀ {ds : List (DataW H)} {d : DataW H}, d ∈ ds → ∀ n ∈ d.weights Tryz.prog e, n ∈ DataW.weightsAll Tryz.prog e ds
  | [], d, h, _, _ => by cases h
  | d0 :: r, d, h, n, hn => by
    rw [DataW.weightsAll, List.mem_append]
    rcases List.mem_cons.1 h with rfl | h
    · exact .inl hn
    · exact .inr (Zd9 h n hn)
end
theorem Zlp {ts : List TypeId} {ds : List (DataW H)} (h : (DataW.weightsEach Tryz.prog ts ds).all (· ≤ reachBytes) = true) {j : Nat} {t : TypeId} (ht : ts[j]? = some t) (hd : ds[j]? = some d) : ∀ n ∈ d.weights Tryz.prog t, n ≤ reachBytes := by
 intro n hn
 have := List.all_eq_true.1 h n (DataW.weights_mem_each ht hd n hn)
 simpa using this
theorem Znd {P : Program} {t n e : TypeId} {v : Value} (ht : P.underlying t = some (.array n e)) (h : Value.okWide P w r base t v) : ∃ cs, v = .agg cs ∧ cs.size = P.cellsOf t := by
 simp only [Value.okWide, ht] at h
 obtain ⟨cs, h1, h2, _⟩ := h
 exact ⟨cs, h1, h2⟩
theorem Zsj {enc : TypeId × Value → H} {spare : Nat → Bool} {v : Value}
    (hv : Value.okWide Tryz.prog w r b0 23 v) (h : DataW.Trod enc Tryz.prog w base spare held 23 v d p) : ∃ xs : List Int, v = .agg (B8 xs) ∧ xs.length = 32 ∧ ∀ x ∈ xs, 0 ≤ x ∧ x < 256 := by
  obtain ⟨cs, rfl, hsz⟩ := Znd Tryz.underlying23 hv
  rw [Zyl] at hsz
  obtain ⟨fuel, hf⟩ := h
  obtain ⟨ys, m, _, _, hlen, hyl, hel⟩ := DataW.trod_array Tryz.underlying23 hf
  have hc : ∀ i, i < 32 → ∃ n : Int, cs.toList[i]? = some (.int .u8 n) ∧ 0 ≤ n ∧ n < 256 := by
    intro i hi
    have hy : i < ys.length := by omega
    have e := hel i hi
    rw [Zue, List.getElem?_eq_getElem hy, Nat.mul_one] at e
    obtain ⟨n, hn, _, hwf⟩ := DataW.trod_int Tryz.underlying5 e
    have hcells : (Value.agg cs).cells.toList = cs.toList := by simp [Value.cells]
    rw [hcells] at hn
    have h0 : ((cs.toList.drop i).take 1)[0]? = some (.int .u8 n) := by rw [hn]; rfl
    rw [List.getElem?_take_of_lt (by omega), List.getElem?_drop] at h0
    exact ⟨n, by simpa using h0, by have := bounds_u8 hwf; omega, by have := bounds_u8 hwf; omega⟩
  refine ⟨cs.toList.map fun v => match v with | .int _ n => n | _ => 0, ?_, by simp [hsz], ?_⟩
  · congr 1
    apply Array.ext'
    unfold B8
    apply List.ext_getElem
    · simp
    · intro i h1 h2
      obtain ⟨n, hn, _⟩ := hc i (by simpa [hsz] using h1)
      have e := (List.getElem?_eq_some_iff.1 hn).2
      simp only [List.getElem_map]
      rw [e]
  · intro x hx
    obtain ⟨v, hv, rfl⟩ := List.mem_map.1 hx
    obtain ⟨i, hi, he⟩ := List.mem_iff_getElem.1 hv
    obtain ⟨n, hn, h0, h1⟩ := hc i (by simpa [hsz] using hi)
    have e := (List.getElem?_eq_some_iff.1 hn).2
    rw [← he, e]
    exact ⟨h0, h1⟩
theorem Zvg {enc : TypeId × Value → H} {v : Value}
    (hv : Value.okWide Tryz.prog w r b0 24 v) (h : DataW.Trod enc Tryz.prog w 0 (fun _ => true) held 24 v d p)
    (hsz : ∀ n ∈ d.weights Tryz.prog 24, n ≤ reachBytes) : ∃ a m c M, v = .slice a m c ∧ NsA w a m c M ∧ m ≤ 5864062014700 := by
  obtain ⟨a0, len0, cap0, rfl⟩ := okWide_slice Tryz.underlying24 hv
  obtain ⟨fuel, hf⟩ := h
  rcases DataW.trod_slice Tryz.underlying24 hf with ⟨hcs, _⟩ | ⟨p, len, cap, elems, rest, n, hfu, hcs, hx, _, hl, hm, hlen, hel, hrl, _⟩
  · simp [Value.cells] at hcs
    obtain ⟨rfl, rfl, rfl⟩ := hcs
    exact ⟨none, 0, 0, [], rfl, ⟨rfl, fun j b hj => by simp at hj⟩, by omega⟩
  · simp [Value.cells] at hcs
    obtain ⟨rfl, rfl, rfl⟩ := hcs
    have hd : d = DataW.slice (elems.map (·.1)) (rest.map (·.1)) := congrArg Prod.fst hx
    rw [hd] at hsz
    have hw : (DataW.slice (elems.map (·.1)) (rest.map (·.1))).weights Tryz.prog 24 = ((elems.map (·.1)).length + (rest.map (·.1)).length) * Tryz.prog.bytesOf 29 :: (DataW.weightsAll Tryz.prog 29 (elems.map (·.1)) ++ DataW.weightsAll Tryz.prog 29 (rest.map (·.1))) := by
      simp only [DataW.weights, Tryz.underlying24]
    rw [hw] at hsz
    have hsz1 := hsz _ (List.mem_cons_self ..)
    rw [show Tryz.prog.bytesOf 29 = 24 from by kernel_rfl, List.length_map, List.length_map, hlen] at hsz1
    unfold reachBytes at hsz1
    have hthing : ∀ i, i < len0 → ∃ a' n' c' bs, w.cell? ((p.add (i * 1)).add 0) = some (.slice a' n' c') ∧ Ag w a' n' c' bs ∧ n' ≤ 140737488351232 := by
      intro i hi
      have he := hel i hi
      rw [Zqv, List.getElem?_eq_getElem (by omega), Option.bind_eq_some_iff] at he
      obtain ⟨cs', hc1, hc2⟩ := he
      obtain ⟨_, hc3, hc4⟩ := World.cells?_some hc1
      obtain ⟨a', n', c', bs, hs, hag, hle'⟩ := Zio hc2 (fun k hk => hsz k (List.mem_cons_of_mem _ (List.mem_append_left _ (Zd9 (List.mem_map_of_mem (List.getElem_mem _)) k hk))))
      refine ⟨a', n', c', bs, ?_, hag, hle'⟩
      have := hc4 0 (by omega)
      rw [hs] at this
      exact this
    have hall : ∀ d k, k + d = len0 → ∃ M : List (List Int), M.length = d ∧ ∀ j, j < d → ∃ a' n' c', w.cell? ((p.add ((k + j) * 1)).add 0) = some (.slice a' n' c') ∧ Ag w a' n' c' (M.getD j []) ∧ n' ≤ 140737488351232 := by
      intro d
      induction d with
      | zero => intro k _; exact ⟨[], rfl, fun j hj => by omega⟩
      | succ d ihd =>
        intro k hk
        obtain ⟨M, h1, h2⟩ := ihd (k + 1) (by omega)
        obtain ⟨a', n', c', bs, h3, h4, h4l⟩ := hthing k (by omega)
        refine ⟨bs :: M, by simp [h1], fun j hj => ?_⟩
        cases j with
        | zero => exact ⟨a', n', c', h3, by simpa using h4, h4l⟩
        | succ j =>
          obtain ⟨a2, n2, c2, h5, h6, h6l⟩ := h2 j (by omega)
          rw [show k + 1 + j = k + (j + 1) from by omega] at h5
          exact ⟨a2, n2, c2, h5, by simpa using h6, h6l⟩
    obtain ⟨M, h1, h2⟩ := hall len0 0 (by omega)
    refine ⟨some p, len0, cap0, M, rfl, ⟨h1.symm, fun j b hjb => ?_⟩, by omega⟩
    have hj : j < M.length := (List.getElem?_eq_some_iff.1 hjb).1
    obtain ⟨a', n', c', h5, h6, h6l⟩ := h2 j (by omega)
    rw [Nat.zero_add] at h5
    have hsp0 : p.spot = none := by
      obtain ⟨_, _, _, _, h7, _, _⟩ := hthing 0 (by omega)
      simpa [Addr.add] using World.cell?_spot h7
    obtain ⟨g, off, spot⟩ := p
    have hsp : spot = none := hsp0
    subst hsp
    rw [Zbb, Zbb] at h5
    rw [show M.getD j [] = b from by simp [List.getD, hjb]] at h6
    exact ⟨g, off, a', n', c', rfl, h5, Ag.sk h6, h6l⟩
section
variable {H : Type} {enc : TypeId × Value → H} {w : World} {held : Bool}
theorem Zr0 {cs : List Value} (h : cs.length = 3) : cs = (cs.drop 0).take 1 ++ ((cs.drop 1).take 1 ++ (cs.drop 2).take 1) := by
  match cs, h with
  | [a, b, c], _ => rfl
theorem Zsi {fuel : Nat} {cs : List Value} {x : DataW H × List MemPlace} (hf : DataW.trod enc Tryz.prog w 0 (fun _ => true) held fuel 31 cs = some x)
    (hsz : ∀ n ∈ x.1.weights Tryz.prog 31, n ≤ reachBytes) : ∃ y : Opx, cs = y.cells.toList ∧ Ag w y.ka y.kn y.kc y.k ∧ Ag w y.va y.vn y.vc y.x ∧ y.kn ≤ 140737488355328 ∧ y.vn ≤ 140737488355328 := by
  obtain ⟨xs, n, hfu, hx, hcl, hxl, hel⟩ := DataW.trod_struct Tryz.underlying31 hf
  rw [Zqu] at hcl
  have e0 := hel 0 _ rfl
  have e1 := hel 1 _ rfl
  have e2 := hel 2 _ rfl
  have hxl3 : xs.length = 3 := hxl
  obtain ⟨x0, x1, x2, rfl⟩ : ∃ x0 x1 x2, xs = [x0, x1, x2] := by
    match xs, hxl3 with
    | [a, b, c], _ => exact ⟨a, b, c, rfl⟩
  subst hx
  have f0 : DataW.trod enc Tryz.prog w 0 (fun _ => true) held n 3 ((cs.drop 0).take (Tryz.prog.cellsOf 3)) = some x0 := e0
  have f1 : DataW.trod enc Tryz.prog w 0 (fun _ => true) held n 29 ((cs.drop 1).take (Tryz.prog.cellsOf 29)) = some x1 := e1
  have f2 : DataW.trod enc Tryz.prog w 0 (fun _ => true) held n 29 ((cs.drop 2).take (Tryz.prog.cellsOf 29)) = some x2 := e2
  rw [Zym] at f0
  rw [Zqv] at f1
  rw [Zqv] at f2
  obtain ⟨k, hk, _, _⟩ := DataW.trod_int Tryz.underlying3 f0
  obtain ⟨a1, m1, c1, b1, hb1, hag1, hl1⟩ := Zio f1 (fun k hk => hsz k (by
    show k ∈ (DataW.agg [x0.1, x1.1, x2.1]).weights Tryz.prog 31
    simp only [DataW.weights, Tryz.underlying31]
    simp only [List.map, DataW.weightsEach, List.mem_append]
    exact .inr (.inl hk)))
  obtain ⟨a2, m2, c2, b2, hb2, hag2, hl2⟩ := Zio f2 (fun k hk => hsz k (by
    show k ∈ (DataW.agg [x0.1, x1.1, x2.1]).weights Tryz.prog 31
    simp only [DataW.weights, Tryz.underlying31]
    simp only [List.map, DataW.weightsEach, List.mem_append]
    exact .inr (.inr (.inl hk))))
  refine ⟨⟨k, a1, m1, c1, a2, m2, c2, b1, b2⟩, ?_, hag1, hag2, by show m1 ≤ _; omega, by show m2 ≤ _; omega⟩
  rw [Zr0 (cs := cs) hcl, hk, hb1, hb2]
  rfl
theorem Zpf {fuel : Nat} {cs : List Value} {x : DataW H × List MemPlace} (hf : DataW.trod enc Tryz.prog w 0 (fun _ => true) held fuel 25 cs = some x)
    (hsz : ∀ n ∈ x.1.weights Tryz.prog 25, n ≤ reachBytes) : ∃ a m c xs, cs = [.slice a m c] ∧ OAt w a m xs ∧ m ≤ 2520000000000 ∧ ∀ y ∈ xs, y.kn ≤ 140737488355328 ∧ y.vn ≤ 140737488355328 := by
  rcases DataW.trod_slice Tryz.underlying25 hf with ⟨hcs, _⟩ | ⟨p, len, cap, elems, rest, n, hfu, hcs, hx, _, hl, hm, hlen, hel, _, _⟩
  · exact ⟨none, 0, 0, [], hcs, ⟨rfl, fun j r hr => by simp at hr, (fun x hx => by cases hx), fun x hx => by cases hx⟩, by omega, fun x hx => by cases hx⟩
  · subst hx
    have hw : (DataW.slice (elems.map (·.1)) (rest.map (·.1))).weights Tryz.prog 25 = ((elems.map (·.1)).length + (rest.map (·.1)).length) * Tryz.prog.bytesOf 31 :: (DataW.weightsAll Tryz.prog 31 (elems.map (·.1)) ++ DataW.weightsAll Tryz.prog 31 (rest.map (·.1))) := by
      simp only [DataW.weights, Tryz.underlying25]
    have hszw : ∀ n ∈ (DataW.slice (elems.map (·.1)) (rest.map (·.1))).weights Tryz.prog 25, n ≤ reachBytes := hsz
    rw [hw] at hszw
    clear hsz
    have hsz1 := hszw _ (List.mem_cons_self ..)
    rw [Zwj, List.length_map, List.length_map, hlen] at hsz1
    unfold reachBytes at hsz1
    have hthing : ∀ i, i < len → ∃ y : Opx, (∀ k, k < 3 → w.cell? ((p.add (i * 3)).add k) = y.cells.toList[k]?) ∧ Ag w y.ka y.kn y.kc y.k ∧ Ag w y.va y.vn y.vc y.x ∧ y.kn ≤ 140737488355328 ∧ y.vn ≤ 140737488355328 := by
      intro i hi
      have he := hel i hi
      rw [Zqu, List.getElem?_eq_getElem (by omega), Option.bind_eq_some_iff] at he
      obtain ⟨cs', hc1, hc2⟩ := he
      obtain ⟨_, hc3, hc4⟩ := World.cells?_some hc1
      obtain ⟨y, hcs', hr⟩ := Zsi hc2 (fun k hk => hszw k (List.mem_cons_of_mem _ (List.mem_append_left _ (Zd9 (List.mem_map_of_mem (List.getElem_mem _)) k hk))))
      refine ⟨y, ?_, hr⟩
      rw [hcs'] at hc4
      exact hc4
    have hspot : 0 < len → p.spot = none := by
      intro h
      obtain ⟨y, hc, hr⟩ := hthing 0 h
      have c0 := hc 0 (by omega)
      rw [show y.cells.toList[0]? = some (.int .i64 y.z) from rfl] at c0
      simpa [Addr.add] using World.cell?_spot c0
    have hall : ∀ d k, k + d = len → ∃ ks : List Opx, ks.length = d ∧ (∀ j r, ks[j]? = some r → ∃ g off, (some p : Option Addr) = some ⟨g, off, none⟩ ∧ w.rangeAt g (off + (k + j) * 3) r.cells.toList) ∧ ∀ y ∈ ks, Ag w y.ka y.kn y.kc y.k ∧ Ag w y.va y.vn y.vc y.x ∧ y.kn ≤ 140737488355328 ∧ y.vn ≤ 140737488355328 := by
      intro d
      induction d with
      | zero => intro k _; exact ⟨[], rfl, (fun j r hr => by simp at hr), fun x hx => by cases hx⟩
      | succ d ihd =>
        intro k hk
        obtain ⟨ks, h1, h2, h3⟩ := ihd (k + 1) (by omega)
        obtain ⟨y, hc, hr⟩ := hthing k (by omega)
        refine ⟨y :: ks, by rw [List.length_cons, h1], fun j s hs => ?_, fun x hx => ?_⟩
        · cases j with
          | zero =>
            simp at hs
            subst hs
            obtain ⟨g, off, spot⟩ := p
            have hsp : spot = none := hspot (by omega)
            subst hsp
            refine ⟨g, off, rfl, fun i u hu => ?_⟩
            have hi : i < 3 := (List.getElem?_eq_some_iff.1 hu).1
            have := hc i hi
            rw [Zbb, Zbb, hu] at this
            exact this
          | succ j =>
            obtain ⟨g, off, e, h3⟩ := h2 j s (by simpa using hs)
            rw [show k + 1 + j = k + (j + 1) from by omega] at h3
            exact ⟨g, off, e, h3⟩
        · rcases List.mem_cons.1 hx with rfl | hx
          · exact hr
          · exact h3 x hx
    obtain ⟨ks, h1, h2, h3⟩ := hall len 0 (by omega)
    refine ⟨some p, len, cap, ks, hcs, ⟨h1, fun j r hr => ?_, fun y hy => (h3 y hy).1, fun y hy => (h3 y hy).2.1⟩, by omega, fun y hy => (h3 y hy).2.2⟩
    obtain ⟨g, off, e, h3⟩ := h2 j r hr
    rw [Nat.zero_add] at h3
    exact ⟨g, off, e, h3⟩
end
theorem Zsh {enc : TypeId × Value → H} {v : Value}
    (hv : Value.okWide Tryz.prog w r b0 25 v) (h : DataW.Trod enc Tryz.prog w 0 (fun _ => true) held 25 v d p)
    (hsz : ∀ n ∈ d.weights Tryz.prog 25, n ≤ reachBytes) : ∃ a m c xs, v = .slice a m c ∧ OAt w a m xs ∧ m ≤ 2520000000000 ∧ ∀ y ∈ xs, y.kn ≤ 140737488355328 ∧ y.vn ≤ 140737488355328 := by
  obtain ⟨a, len, cap, rfl⟩ := okWide_slice Tryz.underlying25 hv
  obtain ⟨fuel, hf⟩ := h
  obtain ⟨a', m, c, xs, hcs, hx⟩ := Zpf hf hsz
  simp [Value.cells] at hcs
  obtain ⟨rfl, rfl, rfl⟩ := hcs
  exact ⟨_, _, _, xs, rfl, hx⟩
end Go.Proofs.YtchgejomcgoaeaaGreat

/- How a list of calls that is handed in reads as data. -/
import Derived.Test.YtjpcfdhkgfaeeaaG22
import Derived.Test.YtjpcfdhkgfaeeaaG12
import Derived.Test.YtjpcfdhkgfaeeaaG08
import Derived.Lib.SlBytesConst
namespace Go.Proofs.Ytjpcfdhkgfaeeaa
open Go.ChangeShapes Go.WideShapes Go.ChangeAt Go.RowKit
set_option linter.unusedVariables false
set_option maxRecDepth 100000
theorem cellsOP : Try.prog.cellsOf 32 = 35 := by kernel_rfl
theorem cellsD : Try.prog.cellsOf 30 = 32 := by kernel_rfl
theorem cells3 : Try.prog.cellsOf 3 = 1 := by kernel_rfl
theorem cells9 : Try.prog.cellsOf 9 = 1 := by kernel_rfl
theorem cells4 : Try.prog.cellsOf 4 = 1 := by kernel_rfl
theorem bytesOP : Try.prog.bytesOf 32 = 64 := by kernel_rfl
/-- A list of calls in memory. -/
structure Cs (w : World) (a : Option Addr) (n c : Nat) (xs : List Cl) : Prop where
  l : n = xs.length
  le : n ≤ 2199023255488
  rows : ∀ j x, xs[j]? = some x → ∃ g off, a = some ⟨g, off, none⟩ ∧ w.rangeAt g (off + j * 35) x.cells
  ok : ∀ x ∈ xs, x.d.length = 32 ∧ x.s.size ≤ 140737488351232
section
variable {H : Type} {enc : TypeId × Value → H} {w : World} {held : Bool}
theorem open_digF {fuel : Nat} {cs : List Value} {x : DataW H × List MemPlace} (hf : DataW.trod enc Try.prog w 0 (fun _ => true) held fuel 30 cs = some x) : ∃ ds : List Int, cs = ds.map (Value.int .u8) ∧ ds.length = 32 := by
  obtain ⟨ys, m, _, _, hlen, hyl, hel⟩ := DataW.trod_array Try.underlying30 hf
  rw [cellsD] at hlen
  have hc : ∀ i, i < 32 → ∃ n : Int, cs[i]? = some (.int .u8 n) := by
    intro i hi
    have hy : i < ys.length := by omega
    have e := hel i hi
    rw [cells5, List.getElem?_eq_getElem hy, Nat.mul_one] at e
    obtain ⟨n, hn, _, hwf⟩ := DataW.trod_int Try.underlying5 e
    have h0 : ((cs.drop i).take 1)[0]? = some (.int .u8 n) := by rw [hn]; rfl
    rw [List.getElem?_take_of_lt (by omega), List.getElem?_drop] at h0
    exact ⟨n, by simpa using h0⟩
  refine ⟨cs.map fun v => match v with | .int _ n => n | _ => 0, ?_, by simp [hlen]⟩
  apply List.ext_getElem
  · simp
  · intro i h1 h2
    obtain ⟨n, hn⟩ := hc i (by omega)
    have e := (List.getElem?_eq_some_iff.1 hn).2
    simp only [List.getElem_map]
    rw [e]
theorem weights_all {e : TypeId} : ∀ {ds : List (DataW H)} {d : DataW H}, d ∈ ds → ∀ n ∈ d.weights Try.prog e, n ∈ DataW.weightsAll Try.prog e ds
  | [], d, h, _, _ => by cases h
  | d0 :: r, d, h, n, hn => by
    rw [DataW.weightsAll, List.mem_append]
    rcases List.mem_cons.1 h with rfl | h
    · exact .inl hn
    · exact .inr (weights_all h n hn)
theorem split4 {cs : List Value} (h : cs.length = 35) : cs = (cs.drop 0).take 1 ++ ((cs.drop 1).take 1 ++ ((cs.drop 2).take 1 ++ (cs.drop 3).take 32)) := by
  have h3 : (cs.drop 3).take 32 = (cs.drop 2).drop 1 := by rw [List.drop_drop]; exact List.take_of_length_le (by simp [h])
  have h2 : (cs.drop 2).take 1 ++ (cs.drop 2).drop 1 = (cs.drop 1).drop 1 := by rw [List.take_append_drop, List.drop_drop]
  have h1 : (cs.drop 1).take 1 ++ (cs.drop 1).drop 1 = (cs.drop 0).drop 1 := by rw [List.take_append_drop, List.drop_drop]
  rw [h3, h2, h1, List.take_append_drop, List.drop_zero]
theorem open_opF {fuel : Nat} {cs : List Value} {x : DataW H × List MemPlace} (hf : DataW.trod enc Try.prog w 0 (fun _ => true) held fuel 32 cs = some x)
    (hsz : ∀ n ∈ x.1.weights Try.prog 32, n ≤ reachBytes) : ∃ y : Cl, cs = y.cells ∧ y.d.length = 32 ∧ y.s.size ≤ 140737488351232 := by
  obtain ⟨xs, n, hfu, hx, hcl, hxl, hel⟩ := DataW.trod_struct Try.underlying32 hf
  rw [cellsOP] at hcl
  have e0 := hel 0 _ rfl
  have e1 := hel 1 _ rfl
  have e2 := hel 2 _ rfl
  have e3 := hel 3 _ rfl
  have hxl4 : xs.length = 4 := hxl
  obtain ⟨x0, x1, x2, x3, rfl⟩ : ∃ x0 x1 x2 x3, xs = [x0, x1, x2, x3] := by
    match xs, hxl4 with
    | [a, b, c, d], _ => exact ⟨a, b, c, d, rfl⟩
  subst hx
  have f0 : DataW.trod enc Try.prog w 0 (fun _ => true) held n 3 ((cs.drop 0).take (Try.prog.cellsOf 3)) = some x0 := e0
  have f1 : DataW.trod enc Try.prog w 0 (fun _ => true) held n 9 ((cs.drop 1).take (Try.prog.cellsOf 9)) = some x1 := e1
  have f2 : DataW.trod enc Try.prog w 0 (fun _ => true) held n 4 ((cs.drop 2).take (Try.prog.cellsOf 4)) = some x2 := e2
  have f3 : DataW.trod enc Try.prog w 0 (fun _ => true) held n 30 ((cs.drop 3).take (Try.prog.cellsOf 30)) = some x3 := e3
  rw [cells3] at f0
  rw [cells9] at f1
  rw [cells4] at f2
  rw [cellsD] at f3
  obtain ⟨k, hk, _, _⟩ := DataW.trod_int Try.underlying3 f0
  obtain ⟨s, hs, hs2, _⟩ := DataW.trod_string Try.underlying9 f1
  obtain ⟨b, hb, _⟩ := DataW.trod_bool Try.underlying4 f2
  obtain ⟨ds, hd, hdl⟩ := open_digF f3
  refine ⟨⟨k, s, b, ds⟩, ?_, hdl, ?_⟩
  · rw [split4 (cs := cs) hcl, hk, hs, hb, hd]
    rfl
  · have := hsz s.data.toList.length (by
      show s.data.toList.length ∈ (DataW.agg [x0.1, x1.1, x2.1, x3.1]).weights Try.prog 32
      simp only [DataW.weights, Try.underlying32]
      simp only [List.map, DataW.weightsEach, List.mem_append]
      refine .inr (.inl ?_)
      rw [hs2]
      simp [DataW.weights])
    unfold reachBytes at this
    have e : s.data.toList.length = s.size := Array.length_toList
    rw [e] at this
    exact this
theorem open_opsF {fuel : Nat} {cs : List Value} {x : DataW H × List MemPlace} (hf : DataW.trod enc Try.prog w 0 (fun _ => true) held fuel 22 cs = some x)
    (hsz : ∀ n ∈ x.1.weights Try.prog 22, n ≤ reachBytes) : ∃ a m c xs, cs = [.slice a m c] ∧ Cs w a m c xs := by
  rcases DataW.trod_slice Try.underlying22 hf with ⟨hcs, _⟩ | ⟨p, len, cap, elems, rest, n, hfu, hcs, hx, _, hl, hm, hlen, hel, _, _⟩
  · exact ⟨none, 0, 0, [], hcs, ⟨rfl, by omega, fun j r hr => by simp at hr, fun x hx => by cases hx⟩⟩
  · subst hx
    have hw : (DataW.slice (elems.map (·.1)) (rest.map (·.1))).weights Try.prog 22 = ((elems.map (·.1)).length + (rest.map (·.1)).length) * Try.prog.bytesOf 32 :: (DataW.weightsAll Try.prog 32 (elems.map (·.1)) ++ DataW.weightsAll Try.prog 32 (rest.map (·.1))) := by
      simp only [DataW.weights, Try.underlying22]
    have hszw : ∀ n ∈ (DataW.slice (elems.map (·.1)) (rest.map (·.1))).weights Try.prog 22, n ≤ reachBytes := hsz
    rw [hw] at hszw
    clear hsz
    have hsz1 := hszw _ (List.mem_cons_self ..)
    rw [bytesOP, List.length_map, List.length_map, hlen] at hsz1
    unfold reachBytes at hsz1
    have hthing : ∀ i, i < len → ∃ y : Cl, (∀ k, k < 35 → w.cell? ((p.add (i * 35)).add k) = y.cells[k]?) ∧ y.d.length = 32 ∧ y.s.size ≤ 140737488351232 := by
      intro i hi
      have he := hel i hi
      rw [cellsOP, List.getElem?_eq_getElem (by omega), Option.bind_eq_some_iff] at he
      obtain ⟨cs', hc1, hc2⟩ := he
      obtain ⟨_, hc3, hc4⟩ := World.cells?_some hc1
      obtain ⟨y, hcs', hr⟩ := open_opF hc2 (fun k hk => hszw k (List.mem_cons_of_mem _ (List.mem_append_left _ (weights_all (List.mem_map_of_mem (List.getElem_mem _)) k hk))))
      refine ⟨y, ?_, hr⟩
      rw [hcs'] at hc4
      exact hc4
    have hspot : 0 < len → p.spot = none := by
      intro h
      obtain ⟨y, hc, hr⟩ := hthing 0 h
      have c0 := hc 0 (by omega)
      rw [show y.cells[0]? = some (.int .i64 y.k) from rfl] at c0
      simpa [Addr.add] using World.cell?_spot c0
    have hall : ∀ d k, k + d = len → ∃ ks : List Cl, ks.length = d ∧ (∀ j r, ks[j]? = some r → ∃ g off, (some p : Option Addr) = some ⟨g, off, none⟩ ∧ w.rangeAt g (off + (k + j) * 35) r.cells) ∧ ∀ x ∈ ks, x.d.length = 32 ∧ x.s.size ≤ 140737488351232 := by
      intro d
      induction d with
      | zero => intro k _; exact ⟨[], rfl, (fun j r hr => by simp at hr), fun x hx => by cases hx⟩
      | succ d ihd =>
        intro k hk
        obtain ⟨ks, h1, h2, h3⟩ := ihd (k + 1) (by omega)
        obtain ⟨y, hc, hr⟩ := hthing k (by omega)
        refine ⟨y :: ks, by rw [List.length_cons, h1], fun j s hs => ?_, fun x hx => ?_⟩
        · cases j with
          | zero =>
            simp at hs
            subst hs
            obtain ⟨g, off, spot⟩ := p
            have hsp : spot = none := hspot (by omega)
            subst hsp
            refine ⟨g, off, rfl, fun i u hu => ?_⟩
            have hi : i < 35 := by have := (List.getElem?_eq_some_iff.1 hu).1; rw [Cl.clen hr.1] at this; exact this
            have := hc i hi
            rw [addr_add, addr_add, hu] at this
            exact this
          | succ j =>
            obtain ⟨g, off, e, h3⟩ := h2 j s (by simpa using hs)
            rw [show k + 1 + j = k + (j + 1) from by omega] at h3
            exact ⟨g, off, e, h3⟩
        · rcases List.mem_cons.1 hx with rfl | hx
          · exact hr
          · exact h3 x hx
    obtain ⟨ks, h1, h2, h3⟩ := hall len 0 (by omega)
    refine ⟨some p, len, cap, ks, hcs, ⟨h1.symm, by omega, fun j r hr => ?_, h3⟩⟩
    obtain ⟨g, off, e, h3⟩ := h2 j r hr
    rw [Nat.zero_add] at h3
    exact ⟨g, off, e, h3⟩
end
theorem open_ops {H : Type} {enc : TypeId × Value → H} {w : World} {b0 : Nat} {r : Reach} {held : Bool} {v : Value} {d : DataW H} {p : List MemPlace}
    (hv : Value.okWide Try.prog w r b0 22 v) (h : DataW.Trod enc Try.prog w 0 (fun _ => true) held 22 v d p)
    (hsz : ∀ n ∈ d.weights Try.prog 22, n ≤ reachBytes) : ∃ a m c xs, v = .slice a m c ∧ Cs w a m c xs := by
  obtain ⟨a, len, cap, rfl⟩ := okWide_slice Try.underlying22 hv
  obtain ⟨fuel, hf⟩ := h
  obtain ⟨a', m, c, xs, hcs, hx⟩ := open_opsF hf hsz
  simp [Value.cells] at hcs
  obtain ⟨rfl, rfl, rfl⟩ := hcs
  exact ⟨_, _, _, xs, rfl, hx⟩
theorem sized_at {H : Type} {ts : List TypeId} {ds : List (DataW H)} (h : (DataW.weightsEach Try.prog ts ds).all (· ≤ reachBytes) = true) {j : Nat} {t : TypeId} {d : DataW H} (ht : ts[j]? = some t) (hd : ds[j]? = some d) : ∀ n ∈ d.weights Try.prog t, n ≤ reachBytes := by
  intro n hn
  have := List.all_eq_true.1 h n (DataW.weights_mem_each ht hd n hn)
  simpa using this
theorem Cs.keep {w w' : World} {a : Option Addr} {n c : Nat} {xs : List Cl} (h : Cs w a n c xs) (hk : ∀ g off, a = some ⟨g, off, none⟩ → g < w.heap.size → w'.heap[g]? = w.heap[g]?) : Cs w' a n c xs := ⟨h.l, h.le, fun j x hj => by
  obtain ⟨g, off, e, hr⟩ := h.rows j x hj
  exact ⟨g, off, e, range_keep hr (hk g off e)⟩, h.ok⟩
theorem Cs.go {w w' : World} {a : Option Addr} {n c : Nat} {xs : List Cl} (h : Cs w a n c xs) (hb : Below w.heap.size w w') : Cs w' a n c xs := h.keep fun g _ _ hl => hb.block g hl
theorem Cs.rng {w : World} {g off n c : Nat} {xs : List Cl} (h : Cs w (some ⟨g, off, none⟩) n c xs) {j : Nat} {y : Cl} (hj : xs[j]? = some y) : w.rangeAt g (off + j * 35) y.cells := by
  obtain ⟨g', off', e, hr⟩ := h.rows j y hj
  cases e
  exact hr
end Go.Proofs.Ytjpcfdhkgfaeeaa
/- What the statements' own begun answers. -/
namespace Go.Proofs.Ytjpcfdhkgfaeeaa
open Go.RowKit
open Di (dref dref_len)
set_option linter.unusedVariables false
set_option maxRecDepth 100000
def thing : ByteArray := ⟨#[116, 104, 105, 110, 103]⟩
def tcells : Array Value := #[.int .u8 116, .int .u8 104, .int .u8 105, .int .u8 110, .int .u8 103]
theorem rd_thing {a : Act} {w : World} {o : Oper} (ho : o.op = .buildSlice 54 5 #[(0, .const (.int .u8 116)), (1, .const (.int .u8 104)), (2, .const (.int .u8 105)), (3, .const (.int .u8 110)), (4, .const (.int .u8 103))]) : (execOp a.eval o).run Try.prog w = .ok (.value (.slice (some ⟨w.heap.size, 0, none⟩) 5 5)) (w.alloc (.cells tcells 5)) := by
  unfold execOp
  rw [ho]
  go_simp
  try rfl
theorem thing_in (w : World) : Di.InB (w.alloc (.cells tcells 5 (5, 6))) (some ⟨w.heap.size, 0, none⟩) 5 5 (nums thing) := by
  refine .inr ⟨_, rfl, rfl, fun j u hu => ?_⟩
  rw [addr_add, Nat.zero_add, cell_of_row _ _ _ _ _ _ (heap_alloc_new w (.cells tcells 5 (5, 6)))]
  have e : (nums thing).map (Value.int .u8) = tcells.toList := by rfl
  rw [e] at hu
  simpa using hu
theorem put_thing : putP 1 thing [] = ([⟨dref (nums thing), thing, 1⟩], dref (nums thing), 0) := rfl
theorem get_thing (d : List Int) : getT d [⟨d, thing, 1⟩] = (thing, 1, true) := by simp [getT, findT]
theorem touch_below {w v v' : World} {m : Nat} (h : Below w.heap.size w v) (t : Touch m v v') (hm : w.heap.size ≤ m) : Below w.heap.size w v' := Touch.below h t hm h.size
set_option maxHeartbeats 8000000 in
theorem begun_any (most : Int) (w : World) : Calls Try.prog 9 #[.int .i64 most] w fun e w' => (∃ g m, e = .returned (.tuple #[.pointer (some ⟨g, 0, none⟩), .bool true]) ∧ Sto w' g m most [] ∧ w.heap.size ≤ g ∧ w.heap.size ≤ m) ∧ Below w.heap.size w w' := by
  obtain ⟨d, hd⟩ : ∃ d, dref (nums thing) = d := ⟨_, rfl⟩
  have HD := Hid.mk hd
  have HDL := Hid.mk (show d.length = 32 from by rw [← hd]; exact dref_len _)
  clear hd
  go_enter Try.func9, Try.ntmps9
  go_wp2_with fail
  refine (new_any 1 w).mono ?_
  rintro e w1 ⟨⟨g, m, rfl, hst, hg, hm⟩, hb1⟩
  have HST := Hid.mk hst
  have HG := Hid.mk (And.intro hg hm)
  have HB1 := Hid.mk hb1
  clear hst hg hm hb1
  go_wp2_with fail
  refine (put_any HST.out (fun x hx => by cases hx) (fun x hx => by cases hx) thing (by decide)).mono ?_
  rw [put_thing, HD.out]
  simp only
  rintro e w2 ⟨rfl, hst2, ht2⟩
  have HS1 := Hid.mk hst2
  have HB2 := Hid.mk (touch_below HB1.out ht2 HG.out.2)
  clear hst2 ht2 HST HB1
  go_upto_region 5 with (first | refine wpList_store_row rfl 30 _ _ rfl _ (B8 d) rfl rfl 30 _ (heap_alloc_new _ _) (infoD d HDL.out) (z8_size HDL.out) (B8_ones _) ?_)
  refine gen_w (p := fun v => Code.wp _ _ _ _ v) (q := fun v => DBx w2.heap.size v d ∧ Below w2.heap.size w2 v) ⟨⟨setRow_heap _ _ _ _ _ _ (heap_alloc_new _ _), HDL.out⟩, Below.setRow (below_new w2 _) (Nat.le_refl _) _⟩ ?_
  rintro v3 ⟨D3, b3⟩
  have HD3 := Hid.mk D3
  have HS3 := Hid.mk (HS1.out.go b3)
  have HB3 := Hid.mk (below_go HB2.out b3)
  clear D3 b3 HS1 HB2
  obtain ⟨gD, hgD⟩ : ∃ gD, w2.heap.size = gD := ⟨_, rfl⟩
  rw [hgD] at HD3 ⊢
  clear hgD
  go_wp2_with (first | refine wpl_loadD rfl _ rfl gD 0 rfl d HDL.out HD3.out.all ?_)
  refine (get_any HS3.out d HDL.out).mono ?_
  rw [get_thing]
  simp only
  rintro e w4 ⟨rfl, hb4⟩
  have HD4 := Hid.mk (HD3.out.go hb4)
  have HS4 := Hid.mk (HS3.out.go hb4)
  have HB4 := Hid.mk (below_go HB3.out hb4)
  clear hb4 HD3 HS3 HB3
  go_wp2_with fail
  refine (new_any most w4).mono ?_
  rintro e u5 ⟨⟨g2, m2, rfl, hst5, hg5, hm5⟩, hb5⟩
  have HS2 := Hid.mk hst5
  have HS1 := Hid.mk (HS4.out.go hb5)
  have HD5 := Hid.mk (HD4.out.go hb5)
  have HB5 := Hid.mk (below_go HB4.out hb5)
  have HG2 := Hid.mk (show w.heap.size ≤ g2 ∧ w.heap.size ≤ m2 from ⟨Nat.le_trans HB4.out.size hg5, Nat.le_trans HB4.out.size hm5⟩)
  clear hst5 hg5 hm5 hb5 HD4 HS4 HB4
  go_upto_region 7 with fail
  rename_i KK hkk
  refine wp_region_held_drew (S := fun v' => Sto v' g m 1 [⟨d, thing, 1⟩] ∧ DBx gD v' d ∧ Sto v' g2 m2 most [] ∧ Below w.heap.size w v') (by kernel_rfl) ⟨HS1.out.go (Below.refl _ _).drew, HD5.out.go (Below.refl _ _).drew, HS2.out.go (Below.refl _ _).drew, HB5.out.drew⟩ (fun hS => ?_)
  refine rd_take 0 28 (.pointer (some ⟨g2, 0, none⟩)) rfl rfl (by kernel_rfl) (by kernel_rfl) (by kernel_rfl) (fun _ _ _ h => h) (by kernel_rfl) (fun v _ => by kernel_rfl) hS ?_
  refine rd_take 1 29 (.pointer (some ⟨g2, 0, none⟩)) rfl rfl (by kernel_rfl) (by kernel_rfl) (by kernel_rfl) (fun _ _ _ h => h) (by kernel_rfl) (fun v _ => by kernel_rfl) hS ?_
  refine rd_take 2 30 (.bool true) rfl rfl (by kernel_rfl) (by kernel_rfl) (by kernel_rfl) (fun _ _ _ h => h) (by kernel_rfl) (fun v _ => by kernel_rfl) hS ?_
  refine rd_take 3 31 (.bool true) rfl rfl (by kernel_rfl) (by kernel_rfl) (by kernel_rfl) (fun _ _ _ h => h) (by kernel_rfl) (fun v _ => by kernel_rfl) hS ?_
  refine rd_take 4 32 (.int .i64 0) rfl rfl (by kernel_rfl) (by kernel_rfl) (by kernel_rfl) (fun _ _ _ h => h) (by kernel_rfl) (fun v _ => by kernel_rfl) hS ?_
  refine rd_take 5 33 (.bool true) rfl rfl (by kernel_rfl) (by kernel_rfl) (by kernel_rfl) (fun _ _ _ h => h) (by kernel_rfl) (fun v _ => by kernel_rfl) hS ?_
  refine rd_take 6 34 (.bool true) rfl rfl (by kernel_rfl) (by kernel_rfl) (by kernel_rfl) (fun _ _ _ h => h) (by kernel_rfl) (fun v _ => by kernel_rfl) hS ?_
  refine rd_take 7 35 (.bool true) rfl rfl (by kernel_rfl) (by kernel_rfl) (by kernel_rfl) (fun _ _ _ h => h) (by kernel_rfl) (fun v _ => by kernel_rfl) hS ?_
  refine rd_take 8 36 (.string thing) rfl rfl (by kernel_rfl) (by kernel_rfl) (by kernel_rfl) (fun _ _ _ h => h) (by kernel_rfl) (fun v _ => by kernel_rfl) hS ?_
  refine rd_take 9 37 (.bool true) rfl rfl (by kernel_rfl) (by kernel_rfl) (by kernel_rfl) (fun _ _ _ h => h) (by kernel_rfl) (fun v _ => by kernel_rfl) hS ?_
  refine rd_take 10 38 (.bool true) rfl rfl (by kernel_rfl) (by kernel_rfl) (by kernel_rfl) (fun _ _ _ h => h) (by kernel_rfl) (fun v _ => by kernel_rfl) hS ?_
  refine rd_take 11 39 (.bool true) rfl rfl (by kernel_rfl) (by kernel_rfl) (by kernel_rfl) (fun _ _ _ h => h) (by kernel_rfl) (fun v _ => by kernel_rfl) hS ?_
  refine rd_take 12 40 (.int .i64 1) rfl rfl (by kernel_rfl) (by kernel_rfl) (by kernel_rfl) (fun _ _ _ h => h) (by kernel_rfl) (fun v _ => by kernel_rfl) hS ?_
  refine rd_take 13 41 (.bool true) rfl rfl (by kernel_rfl) (by kernel_rfl) (by kernel_rfl) (fun _ _ _ h => h) (by kernel_rfl) (fun v _ => by kernel_rfl) hS ?_
  refine rd_take 14 42 (.bool true) rfl rfl (by kernel_rfl) (by kernel_rfl) (by kernel_rfl) (fun _ _ _ h => h) (by kernel_rfl) (fun v _ => by kernel_rfl) hS ?_
  refine rd_take 15 43 (.bool true) rfl rfl (by kernel_rfl) (by kernel_rfl) (by kernel_rfl) (fun _ _ _ h => h) (by kernel_rfl) (fun v _ => by kernel_rfl) hS ?_
  refine rd_take 16 44 (.bool true) rfl rfl (by kernel_rfl) (by kernel_rfl) (by kernel_rfl) (fun _ _ _ h => h) (by kernel_rfl) (fun v _ => by kernel_rfl) hS ?_
  refine rd_take 17 45 (.bool true) rfl rfl (by kernel_rfl) (by kernel_rfl) (by kernel_rfl) (fun _ _ _ h => h) (by kernel_rfl) (fun v _ => by kernel_rfl) hS ?_
  refine rd_take 18 46 (.bool true) rfl rfl (by kernel_rfl) (by kernel_rfl) (by kernel_rfl) (fun _ _ _ h => h) (by kernel_rfl) (fun v _ => by kernel_rfl) hS ?_
  refine rd_take 19 47 (.pointer (some ⟨g, 0, none⟩)) rfl rfl (by kernel_rfl) (by kernel_rfl) (by kernel_rfl) (fun _ _ _ h => h) (by kernel_rfl) (fun v _ => by kernel_rfl) hS ?_
  refine wpAnyH_ready (rs := [20]) (by kernel_rfl) (by simp) ?_
  refine rd_call 20 48 rfl rfl (by kernel_rfl) 15 #[.pointer (some ⟨g, 0, none⟩)] (by kernel_rfl) (R := fun val w' => val = .int .i64 1 ∧ w' = u5.drew) ((len_any hS.1).mono (fun e w' h => ⟨_, h.1, rfl, h.2⟩)) (fun val w' h => by rw [h.2]; exact hS) ?_ AllReadyH.nil
  rintro val p0 ⟨rfl, rfl⟩
  refine rd_take 21 49 (.bool true) rfl rfl (by kernel_rfl) (by kernel_rfl) (by kernel_rfl) (fun _ _ _ h => h) (by kernel_rfl) (fun v _ => by kernel_rfl) hS ?_
  refine rd_take 22 50 (.bool true) rfl rfl (by kernel_rfl) (by kernel_rfl) (by kernel_rfl) (fun _ _ _ h => h) (by kernel_rfl) (fun v _ => by kernel_rfl) hS ?_
  refine rd_take 23 51 (.bool true) rfl rfl (by kernel_rfl) (by kernel_rfl) (by kernel_rfl) (fun _ _ _ h => h) (by kernel_rfl) (fun v _ => by kernel_rfl) hS ?_
  refine rd_take 24 52 (.agg (B8 d)) rfl rfl (by kernel_rfl) (by kernel_rfl) (by kernel_rfl) (fun _ _ _ h => h) (by kernel_rfl) (fun v' hv => rd_loadDd rfl (by kernel_rfl) hv.2.1) hS ?_
  refine wpAnyH_ready (rs := [25]) (by kernel_rfl) (by simp) ?_
  refine rd_run 25 53 (.slice (some ⟨u5.heap.size, 0, none⟩) 5 5) rfl rfl (by kernel_rfl) (rd_thing rfl) ⟨hS.1.go (below_new _ _), hS.2.1.go (below_new _ _), hS.2.2.1.go (below_new _ _), below_go hS.2.2.2 (below_new _ _)⟩ ?_ AllReadyH.nil
  refine wpAnyH_ready (rs := [26]) (by kernel_rfl) (by simp) ?_
  have hbt : Below u5.drew.heap.size u5.drew (u5.drew.alloc (.cells tcells 5 (5, 6))) := below_new _ _
  have hS3 : Sto (u5.drew.alloc (.cells tcells 5 (5, 6))) g m 1 [⟨d, thing, 1⟩] ∧ DBx gD (u5.drew.alloc (.cells tcells 5 (5, 6))) d ∧ Sto (u5.drew.alloc (.cells tcells 5 (5, 6))) g2 m2 most [] ∧ Below w.heap.size w (u5.drew.alloc (.cells tcells 5 (5, 6))) := ⟨hS.1.go hbt, hS.2.1.go hbt, hS.2.2.1.go hbt, below_go hS.2.2.2 hbt⟩
  refine rd_run 26 54 (.slice (some ⟨u5.heap.size, 0, none⟩) 5 5) rfl rfl (by kernel_rfl) (rd_convX rfl (by kernel_rfl) (Lib.run_convert_bytes_const u5.drew 54 5 tcells 5 5 Try.underlying54 Try.underlying5)) hS3 ?_ AllReadyH.nil
  refine wpAnyH_ready (rs := [27]) (by kernel_rfl) (by simp) ?_
  refine rd_call 27 55 rfl rfl (by kernel_rfl) 20 #[.slice (some ⟨u5.heap.size, 0, none⟩) 5 5] (by kernel_rfl) (R := fun val w' => val = .agg (B8 d) ∧ Below (u5.drew.alloc (.cells tcells 5 (5, 6))).heap.size (u5.drew.alloc (.cells tcells 5 (5, 6))) w') ((Di.rof_any _ _ _ (nums thing) _ (thing_in u5.drew) (nums_b _) (by decide)).mono (fun e w' h => ⟨_, h.1, by rw [← HD.out]; rfl, h.2⟩)) (fun val w' h => ⟨hS3.1.go h.2, hS3.2.1.go h.2, hS3.2.2.1.go h.2, below_go hS3.2.2.2 h.2⟩) ?_ AllReadyH.nil
  rintro val p2 ⟨rfl, hb2⟩
  have hS4 : Sto p2 g m 1 [⟨d, thing, 1⟩] ∧ DBx gD p2 d ∧ Sto p2 g2 m2 most [] ∧ Below w.heap.size w p2 := ⟨hS3.1.go hb2, hS3.2.1.go hb2, hS3.2.2.1.go hb2, below_go hS3.2.2.2 hb2⟩
  refine rd_take 28 56 (.bool true) rfl rfl (by kernel_rfl) (by kernel_rfl) (by kernel_rfl) (fun _ _ _ h => h) (by kernel_rfl) (fun v' _ => rd_eqDig rfl (by kernel_rfl) (by kernel_rfl) HDL.out HDL.out (by simp)) hS4 ?_
  refine rd_take 29 57 (.bool true) rfl rfl (by kernel_rfl) (by kernel_rfl) (by kernel_rfl) (fun _ _ _ h => h) (by kernel_rfl) (fun v _ => by kernel_rfl) hS4 ?_
  refine rd_take 30 2 (.pointer (some ⟨g2, 0, none⟩)) rfl rfl (by kernel_rfl) (by kernel_rfl) (by kernel_rfl) (fun _ _ _ h => h) (by kernel_rfl) (fun v _ => by kernel_rfl) hS4 ?_
  refine rd_take 31 3 (.bool true) rfl rfl (by kernel_rfl) (by kernel_rfl) (by kernel_rfl) (fun _ _ _ h => h) (by kernel_rfl) (fun v _ => by kernel_rfl) hS4 ?_
  refine wpAnyH_done (by kernel_rfl) ?_ _
  refine hkk _ _ ?_
  have HEND := Hid.mk hS4
  clear hkk hS hS3 hS4 hb2 hbt
  go_frame
  go_wp2_with fail
  go_ret2
  exact ⟨⟨g2, m2, rfl, HEND.out.2.2.1, HG2.out.1, HG2.out.2⟩, HEND.out.2.2.2⟩
end Go.Proofs.Ytjpcfdhkgfaeeaa

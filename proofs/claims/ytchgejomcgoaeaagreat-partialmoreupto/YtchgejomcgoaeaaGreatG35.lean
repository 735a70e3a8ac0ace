/- The law's own: what a call tells. -/
import Derived.Test.YtchgejomcgoaeaaGreatG34
import Derived.Test.YtchgejomcgoaeaaGreatG14
import Derived.Maps.RangeRun
import Derived.Test.YtchgejomcgoaeaaGreatG22
import Derived.Lib.SlBytesConst
set_option linter.unusedVariables false
set_option maxRecDepth 100000
namespace Go.Proofs.YtchgejomcgoaeaaGreat
open Go.RowKit
open Di (dref)
open Pt
variable {w : World} {a a' : Option Addr} {n c n' c' g gU gx : Nat} {p d : List Int}
def tdc (v : Value) (b : Bool) (e : Int) (d : List Int) : Array Value := (v :: .bool b :: .int .i64 e :: d.map (Value.int .u8)).toArray
section
variable {v v' : Value} {b b' : Bool} {e e' : Int} {d d' : List Int}
theorem Zbu (h : d.length = 32) : (tdc v b e d).size = 35 := by simp [tdc, h]
theorem Zc6 (h : d.length = 32) : (Tryz.prog.info? 34).map (·.size) = some (tdc v b e d).size := by rw [Zbu h]; kernel_rfl
theorem Zja (h : d.length = 32) (h' : d'.length = 32) : (tdc v b e d).size = (tdc v' b' e' d').size := by rw [Zbu h, Zbu h']
theorem Zgd (hv : v.oneCell' = true) : (tdc v b e d).all (·.oneCell') = true := by
  unfold tdc
  refine all_oneCell_toArray fun x hx => ?_
  rcases List.mem_cons.1 hx with rfl | hx
  · exact hv
  rcases List.mem_cons.1 hx with rfl | hx
  · rfl
  rcases List.mem_cons.1 hx with rfl | hx
  · rfl
  obtain ⟨z, _, rfl⟩ := List.mem_map.1 hx
  rfl
theorem tdc0 : (tdc v b e d)[0]? = some v := by simp [tdc]
theorem tdc1 : (tdc v b e d)[1]? = some (.bool b) := by simp [tdc]
theorem tdc2 : (tdc v b e d)[2]? = some (.int .i64 e) := by simp [tdc]
theorem tdc3 (j : Nat) : (tdc v b e d)[3 + j]? = (d.map (Value.int .u8))[j]? := by unfold tdc; rw [List.getElem?_toArray, Nat.add_comm]; rfl
theorem Zru : (tdc v b e d).setIfInBounds 0 v' = tdc v' b e d := by simp [tdc]
theorem Zlm : (tdc v b e d).setIfInBounds 1 (.bool b') = tdc v b' e d := by simp [tdc]
theorem Zib : (tdc v b e d).setIfInBounds 2 (.int .i64 e') = tdc v b e' d := by simp [tdc]
theorem Zci (hv : ∀ x, v ≠ .int .u8 x) : ∀ (j : Nat) (x : Int), (tdc v b e d)[j]? = some (Value.int .u8 x) → (tdc v' b' e' d)[j]? = some (Value.int .u8 x)
  | 0, x, h => by rw [tdc0] at h; exact absurd (Option.some.inj h) (hv x)
  | 1, x, h => by rw [tdc1] at h; cases h
  | 2, x, h => by rw [tdc2] at h; cases h
  | j + 3, x, h => by rw [Nat.add_comm, tdc3] at h ⊢; exact h
theorem Zic {g : Nat} {w : World} (h : Rw g w (tdc v b e d) 34) : w.rangeAt g 3 (d.map (Value.int .u8)) := fun m x hx => by
  rw [cell_of_row _ _ _ _ _ _ h, tdc3]; exact hx
theorem Zu0 {g : Nat} {w : World} (h : Rw g w (tdc v b e d) 34) (hd : d.length = 32) (hd' : d'.length = 32) : Rw g (w.setCells g 3 (d'.map (Value.int .u8))) (tdc v b e d') 34 := by
  obtain ⟨cur, h1, h2⟩ := Zon g 34 (d'.map (Value.int .u8)) 3 w _ h
  have hth : w.there g 3 (d'.map (Value.int .u8)).length := fun m hm => by
    refine ⟨?_, frozen_of_row _ _ _ _ _ h⟩
    rw [cell_of_row _ _ _ _ _ _ h, Array.getElem?_eq_getElem (by rw [Zbu hd]; rw [List.length_map] at hm; omega)]
    rfl
  have hs := World.rangeAt_setCells_same w g 3 _ hth
  have ha : (w.setCells g 3 (d'.map (Value.int .u8))).rangeAt g 0 [v, .bool b, .int .i64 e] := World.rangeAt_setCells_apart (fun m x hx => by
    rw [cell_of_row _ _ _ _ _ _ h]
    match m, hx with
    | 0, hx => rw [Nat.zero_add, tdc0]; exact hx
    | 1, hx => rw [Nat.zero_add, tdc1]; exact hx
    | 2, hx => rw [Nat.zero_add, tdc2]; exact hx) g 3 _ (.inr (.inl (Nat.le_refl _)))
  have e : cur = tdc v b e d' := by
    apply Array.ext_getElem?
    intro m
    have hc : ∀ o, (w.setCells g 3 (d'.map (Value.int .u8))).cell? ⟨g, o, none⟩ = cur[o]? := fun o => cell_of_row _ _ _ _ _ _ h1
    by_cases hm : m < 35
    · match m with
      | 0 => rw [← hc, tdc0]; exact ha 0 _ rfl
      | 1 => rw [← hc, tdc1]; exact ha 1 _ rfl
      | 2 => rw [← hc, tdc2]; exact ha 2 _ rfl
      | j + 3 =>
        rw [← hc, Nat.add_comm, tdc3]
        have hj : j < (d'.map (Value.int .u8)).length := by rw [List.length_map]; omega
        rw [List.getElem?_eq_getElem hj]
        exact hs j _ (List.getElem?_eq_getElem hj)
    · rw [Array.getElem?_eq_none (by rw [h2, Zbu hd]; omega), Array.getElem?_eq_none (by rw [Zbu hd']; omega)]
  rw [Rw, h1, e]
theorem Zpg {ρ : Operand → Value} {w : World} {o : Oper} {g : Nat} (x z : Operand) (h : Rw g w (tdc v b e d) 34) (hd : d.length = 32) (hd' : d'.length = 32) (ho : o.op = .store 23 x z) (hx : ρ x = .pointer (some ⟨g, 3, none⟩)) (hz : ρ z = .agg (B8 d')) :
    (execOp ρ o).run Tryz.prog w = .ok .skip (w.setCells g 3 (d'.map (Value.int .u8))) := by
  have := run_storeAt_mid (P := Tryz.prog) w g 3 23 (B8 d') (fun m hm => by
    refine ⟨?_, frozen_of_row _ _ _ _ _ h⟩
    rw [cell_of_row _ _ _ _ _ _ h, Array.getElem?_eq_getElem (by rw [Zbu hd]; rw [B8_size] at hm; omega)]
    rfl) (Zbm hd') (B8_one _)
  unfold execOp
  simp only [ho, hx, hz, Sem.run_bind, this, Result.andThen_ok, Sem.run_pure]
  rfl
end
set_option maxHeartbeats 1000000 in
theorem Zp6 {K K' : Nat → Prop} {q : List Int} (h1 : Sk K w a n c p) (h2 : Sk K' w a' n' c' q) :
    Calls Tryz.prog 20 #[.slice a n c, .slice a' n' c'] w fun e w' => ∃ u, e = .returned u ∧ u = .bool (decide (p = q)) ∧ Bl w w' := by
  have hB := Bl.refl w
  refine Zaj Tryz.func20 rfl 10 rfl ?_
  show CW _ _ _ _ _ _ _ [(0, .slice a n c), (1, .slice a' n' c')] _
  refine Zac ?_
  refine Zaa ?_
  refine rp 4 (.bool false) ?_
  refine Zad ?_
  refine Zab ?_
  refine Zac ?_
  refine Zaa ?_
  refine rp 5 (.slice a n c) ?_
  refine rv 6 (.string (strOfNums p)) (fun _ => h1.run_str _ _ _ rfl (by kernel_rfl)) ?_
  refine rp 7 (.slice a' n' c') ?_
  refine rv 8 (.string (strOfNums q)) (fun _ => h2.run_str _ _ _ rfl (by kernel_rfl)) ?_
  refine rv 9 (.bool (decide (p = q))) (fun _ => Zt5 9 _ _ _ _ _ rfl (by kernel_rfl) (by kernel_rfl) (Zoi h1.ag.b h2.ag.b)) ?_
  refine rp 4 (.bool (decide (p = q))) ?_
  refine Zad ?_
  refine Zab ?_
  refine Zap ?_
  exact Zae (.bool (decide (p = q))) (fun _ => by kernel_rfl) ⟨_, rfl, rfl, hB⟩
theorem Zgt (h1 : Sk An w a n c p) (h2 : Sk An w a' n' c' p) : Calls Tryz.prog 20 #[.slice a n c, .slice a' n' c'] w fun e w' => ∃ u, e = .returned u ∧ RVl w (.bool true) u w' := (Zp6 h1 h2).mono fun e w' h => by
  obtain ⟨u, h1, h2, h3⟩ := h
  exact ⟨u, h1, by rw [h2, decide_eq_true rfl], h3⟩
structure Td where
  v : List Int
  b : Bool
  e : Int
  d : List Int
def callP (kn : Kn) (t : Pt) (k : Int) (key y : List Int) : Pt × Td := if k = 0 then (t, ⟨(getP kn t key).1, decide (0 < (getP kn t key).1.length), (getP kn t key).2, z32⟩) else if k = 1 then ((putQ kn t key y).1, ⟨[], false, (putQ kn t key y).2, z32⟩) else if k = 2 then ((delQ kn t key).1, ⟨[], (delQ kn t key).2.1, (delQ kn t key).2.2, z32⟩) else (t, ⟨[], false, 0, rtP t⟩)
def RTo (r : Td) : Value → World → Prop := fun u w' => ∃ a n c, u = .agg (tdc (.slice a n c) r.b r.e r.d) ∧ Sk An w' a n c r.v
def RCa (w : World) (g gK gU : Nat) (kn : Kn) (r : Pt × Td) : Value → World → Prop := fun u w' => (∃ us, PAt w' g gK gU r.1 kn us) ∧ RTo r.2 u w' ∧ T2 g gU w w'
theorem T2.tou {v v' : World} (h : T2 g gU w v) (ht : Touch gx v v') (hz : w.heap.size ≤ gx) : T2 g gU w v' :=
  ⟨ht.os.trans h.os, ht.tape.trans h.tape, ht.output.trans h.output, Nat.le_trans h.size ht.size, fun k hk n1 n2 => (ht.block k (Nat.lt_of_lt_of_le hk h.size) (by omega)).trans (h.block k hk n1 n2), h.n.tou ht hz⟩
theorem Rw.t2 {v : World} {cells : Array Value} {T : TypeId} (h : Rw gx w cells T) (ht : T2 g gU w v) (h1 : gx ≠ g) (h2 : gx ≠ gU) : Rw gx v cells T := (ht.block gx (lt_of_get h) h1 h2).trans h
set_option maxHeartbeats 1000000 in
theorem Zg0 {gK : Nat} {t0 : Pt} {kn : Kn} {us : List (List Int)} (hP : PAt w g gK gU t0 kn us) {k : Int} {b : Option Addr} {m d : Nat} {key y : List Int} (hkey : Sk An w a n c key) (hy : Sk An w b m d y)  : Calls Tryz.prog 8 #[.pointer (some ⟨g, 0, none⟩), .agg #[.int .i64 k, .slice a n c, .slice b m d]] w fun e w' => ∃ v', e = .returned v' ∧ RCa w g gK gU kn (callP kn t0 k key y) v' w' := by
  have hgP := hP.lt
  have hgK := hP.km.lt
  have hgU := hP.um.lt
  have hP0 := hP
  have hrl : (rtP t0).length = 32 := by obtain ⟨vt, _, htt⟩ := hP.row; exact Zhr htt
  have hB : Bl w w := Bl.refl w
  refine Zaj Tryz.func8 rfl 45 rfl ?_
  show CW _ _ _ _ _ _ _ [(0, .pointer (some ⟨g, 0, none⟩)), (1, .agg #[.int .i64 k, .slice a n c, .slice b m d])] _
  refine Zac ?_
  refine Zaa ?_
  refine Zar 3 (#[.int .i64 k, .slice a n c, .slice b m d]) 31 (fun _ => by kernel_rfl) (fun _ => by kernel_rfl) ?_
  intro w1 g2 hn3
  have hzg2 : w.heap.size ≤ g2 := by have := hB.size; have := hn3.hg; omega
  replace hB := hB.go hn3.below
  replace hP := hP.go hn3.below
  replace hkey := hkey.go hn3.below
  replace hy := hy.go hn3.below
  have hr4 : Rw g2 w1 (#[.int .i64 k, .slice a n c, .slice b m d]) 31 := hn3.row
  refine Zar 4 (tdc (.slice none 0 0) false 0 z32) 34 (fun _ => by kernel_rfl) (fun _ => by kernel_rfl) ?_
  intro w5 g6 hn7
  have hlg2g6 : g2 < g6 := by have := hr4.lt; have := hn7.hg; omega
  have hzg6 : w.heap.size ≤ g6 := by have := hB.size; have := hn7.hg; omega
  replace hB := hB.go hn7.below
  replace hP := hP.go hn7.below
  replace hkey := hkey.go hn7.below
  replace hy := hy.go hn7.below
  replace hr4 := hr4.go hn7.below
  have hr8 : Rw g6 w5 (tdc (.slice none 0 0) false 0 z32) 34 := hn7.row
  refine Zad ?_
  refine Zab ?_
  refine Zac ?_
  refine Zaa ?_
  refine Zar 5 (tdc (.slice none 0 0) false 0 z32) 34 (fun _ => by kernel_rfl) (fun _ => by kernel_rfl) ?_
  intro w9 g10 hn11
  have hlg2g10 : g2 < g10 := by have := hr4.lt; have := hn11.hg; omega
  have hlg6g10 : g6 < g10 := by have := hr8.lt; have := hn11.hg; omega
  have hzg10 : w.heap.size ≤ g10 := by have := hB.size; have := hn11.hg; omega
  replace hB := hB.go hn11.below
  replace hP := hP.go hn11.below
  replace hkey := hkey.go hn11.below
  replace hy := hy.go hn11.below
  replace hr4 := hr4.go hn11.below
  replace hr8 := hr8.go hn11.below
  have hr12 : Rw g10 w9 (tdc (.slice none 0 0) false 0 z32) 34 := hn11.row
  refine Zad ?_
  refine Zab ?_
  refine Zac ?_
  refine Zac ?_
  refine Zaa ?_
  refine rp 6 (.pointer (some ⟨g2, 0, none⟩)) ?_
  refine rv 7 (.int .i64 k) (fun _ => Zag 3 _ ⟨g2, 0, none⟩ _ _ rfl (by kernel_rfl) (by rw [cell_of_row _ _ _ _ _ _ hr4]; rfl) Tryz.underlying3 rfl) ?_
  refine Zad ?_
  refine Zab ?_
  refine Zan ?_
  refine Zac ?_
  refine Zaa ?_
  refine rp 12 (.bool ((k : Int) == (0 : Int))) ?_
  refine rp 11 (.bool ((k : Int) == (0 : Int))) ?_
  refine Zad ?_
  refine Zab ?_
  cases hq13 : ((k : Int) == (0 : Int)) with
  | true =>
    refine Zai (fun _ => by kernel_rfl) ?_
    refine Zaa ?_
    refine rp 14 (.pointer (some ⟨g, 0, none⟩)) ?_
    refine rp 15 (.pointer (some ⟨g2, 1, none⟩)) ?_
    refine rv 16 (.slice a n c) (fun _ => Zag 29 _ ⟨g2, 1, none⟩ _ _ rfl (by kernel_rfl) (by rw [cell_of_row _ _ _ _ _ _ hr4]; rfl) Tryz.underlying29 rfl) ?_
    refine Zak 17 19 #[.pointer (some ⟨g, 0, none⟩), .slice a n c] (fun _ => by kernel_rfl) (fun _ => by kernel_rfl) (R := RGet w9 g gK gU t0 kn us key) (Zqk hP hkey) ?_
    rintro _ w14 ⟨hP15, ⟨a16, n17, c18, rfl, hx19, hn20⟩, hT21⟩
    have hT : T2 g gU w w14 := (T2.of (TU.of hB)).trans (T2.of (g := g) hT21)
    replace hr4 := hr4.t2 (T2.of (g := g) hT21) (by omega) (by omega)
    replace hr8 := hr8.t2 (T2.of (g := g) hT21) (by omega) (by omega)
    replace hr12 := hr12.t2 (T2.of (g := g) hT21) (by omega) (by omega)
    replace hkey := hkey.nt (T2.of (g := g) hT21).n
    replace hy := hy.nt (T2.of (g := g) hT21).n
    replace hP := hP15
    refine rp 13 (.tuple #[.slice a16 n17 c18, .bool (decide (0 < (getP kn t0 key).1.length)), .int .i64 (getP kn t0 key).2]) ?_
    refine rp 18 (.slice a16 n17 c18) ?_
    refine rp 19 (.bool (decide (0 < (getP kn t0 key).1.length))) ?_
    refine rp 20 (.int .i64 (getP kn t0 key).2) ?_
    refine rp 21 (.pointer (some ⟨g10, 0, none⟩)) ?_
    refine Zb0 g10 (0) (.slice a16 n17 c18) (fun _ => by kernel_rfl) (fun _ => Zbr 29 _ _ g10 _ _ 34 _ hr12 rfl (by kernel_rfl) (by kernel_rfl) (by rw [Zbu (show z32.length = 32 from rfl)]; omega) rfl rfl (by kernel_rfl)) ?_
    intro w22 hs23
    have ho24 := hr12
    replace hr12 := hr12.set (cells' := (tdc (.slice a16 n17 c18) false 0 z32)) hs23 Zru
    have hnt25 : Nt _ _ := Nt.cells ho24 hr12 hs23.touch (Zci (fun _ e9 => by cases e9))
    replace hP := hP.keep hnt25 (hs23.touch.block _ hP.lt (by omega)) (hs23.touch.block _ hP.km.lt (by omega)) (hP.um.keep (hs23.touch.block _ hP.um.lt (by omega)))
    replace hkey := hkey.nt hnt25
    replace hy := hy.nt hnt25
    replace hr4 := hr4.past hs23.touch (by omega)
    replace hr8 := hr8.past hs23.touch (by omega)
    replace hT := hT.tou hs23.touch hzg10
    replace hx19 := hx19.nt hnt25
    refine rp 22 (.pointer (some ⟨g10, 1, none⟩)) ?_
    refine Zb0 g10 (1) (.bool (decide (0 < (getP kn t0 key).1.length))) (fun _ => by kernel_rfl) (fun _ => Zbr 4 _ _ g10 _ _ 34 _ hr12 rfl (by kernel_rfl) (by kernel_rfl) (by rw [Zbu (show z32.length = 32 from rfl)]; omega) rfl rfl (by kernel_rfl)) ?_
    intro w26 hs27
    have ho28 := hr12
    replace hr12 := hr12.set (cells' := (tdc (.slice a16 n17 c18) (decide (0 < (getP kn t0 key).1.length)) 0 z32)) hs27 Zlm
    have hnt29 : Nt _ _ := Nt.cells ho28 hr12 hs27.touch (Zci (fun _ e9 => by cases e9))
    replace hP := hP.keep hnt29 (hs27.touch.block _ hP.lt (by omega)) (hs27.touch.block _ hP.km.lt (by omega)) (hP.um.keep (hs27.touch.block _ hP.um.lt (by omega)))
    replace hkey := hkey.nt hnt29
    replace hy := hy.nt hnt29
    replace hr4 := hr4.past hs27.touch (by omega)
    replace hr8 := hr8.past hs27.touch (by omega)
    replace hT := hT.tou hs27.touch hzg10
    replace hx19 := hx19.nt hnt29
    refine rp 23 (.pointer (some ⟨g10, 2, none⟩)) ?_
    refine Zb0 g10 (2) (.int .i64 (getP kn t0 key).2) (fun _ => by kernel_rfl) (fun _ => Zbr 32 _ _ g10 _ _ 34 _ hr12 rfl (by kernel_rfl) (by kernel_rfl) (by rw [Zbu (show z32.length = 32 from rfl)]; omega) rfl rfl (by kernel_rfl)) ?_
    intro w30 hs31
    have ho32 := hr12
    replace hr12 := hr12.set (cells' := (tdc (.slice a16 n17 c18) (decide (0 < (getP kn t0 key).1.length)) ((getP kn t0 key).2) z32)) hs31 Zib
    have hnt33 : Nt _ _ := Nt.cells ho32 hr12 hs31.touch (Zci (fun _ e9 => by cases e9))
    replace hP := hP.keep hnt33 (hs31.touch.block _ hP.lt (by omega)) (hs31.touch.block _ hP.km.lt (by omega)) (hP.um.keep (hs31.touch.block _ hP.um.lt (by omega)))
    replace hkey := hkey.nt hnt33
    replace hy := hy.nt hnt33
    replace hr4 := hr4.past hs31.touch (by omega)
    replace hr8 := hr8.past hs31.touch (by omega)
    replace hT := hT.tou hs31.touch hzg10
    replace hx19 := hx19.nt hnt33
    refine Zad ?_
    refine Zau ?_
    refine Zab ?_
    refine Zac ?_
    refine Zaa ?_
    refine rv 44 (.agg (tdc (.slice a16 n17 c18) (decide (0 < (getP kn t0 key).1.length)) ((getP kn t0 key).2) z32)) (fun _ => Za2 34 _ _ _ _ _ _ rfl (by kernel_rfl) hr12 Tryz.underlying34 rfl (Zc6 (show z32.length = 32 from rfl))) ?_
    refine Zav g6 (tdc (.slice a16 n17 c18) (decide (0 < (getP kn t0 key).1.length)) ((getP kn t0 key).2) z32) (fun _ => by kernel_rfl) (fun _ => Zao 34 _ _ _ _ _ 34 rfl (by kernel_rfl) (by kernel_rfl) hr8 (Zc6 (show z32.length = 32 from rfl)) (Zja (show z32.length = 32 from rfl) (show z32.length = 32 from rfl)) (Zgd rfl)) ?_
    intro w34 hp35
    have ho36 := hr8
    replace hr8 : Rw g6 w34 (tdc (.slice a16 n17 c18) (decide (0 < (getP kn t0 key).1.length)) ((getP kn t0 key).2) z32) 34 := hp35.row hr8
    have hnt37 : Nt _ _ := Nt.cells ho36 hr8 hp35.touch (Zci (fun _ e9 => by cases e9))
    replace hP := hP.keep hnt37 (hp35.touch.block _ hP.lt (by omega)) (hp35.touch.block _ hP.km.lt (by omega)) (hP.um.keep (hp35.touch.block _ hP.um.lt (by omega)))
    replace hkey := hkey.nt hnt37
    replace hy := hy.nt hnt37
    replace hr4 := hr4.past hp35.touch (by omega)
    replace hr12 := hr12.past hp35.touch (by omega)
    replace hT := hT.tou hp35.touch hzg6
    replace hx19 := hx19.nt hnt37
    refine Zad ?_
    refine Zab ?_
    refine Zap ?_
    refine Zae (.agg (tdc (.slice a16 n17 c18) (decide (0 < (getP kn t0 key).1.length)) ((getP kn t0 key).2) z32)) (fun _ => Zch rfl _ g6 _ (by kernel_rfl) hr8 Tryz.underlying34 rfl (Zc6 (show z32.length = 32 from rfl))) ?_
    unfold callP
    rw [if_pos (show k = 0 by simpa using hq13)]
    exact ⟨_, rfl, ⟨_, hP⟩, ⟨_, _, _, rfl, hx19⟩, hT⟩
  | false =>
    refine Zaf (fun _ => by kernel_rfl) ?_
    refine Zac ?_
    refine Zaa ?_
    refine rp 25 (.bool ((k : Int) == (1 : Int))) ?_
    refine rp 24 (.bool ((k : Int) == (1 : Int))) ?_
    refine Zad ?_
    refine Zab ?_
    cases hq38 : ((k : Int) == (1 : Int)) with
    | true =>
      refine Zai (fun _ => by kernel_rfl) ?_
      refine Zaa ?_
      refine rp 26 (.pointer (some ⟨g, 0, none⟩)) ?_
      refine rp 27 (.pointer (some ⟨g2, 1, none⟩)) ?_
      refine rv 28 (.slice a n c) (fun _ => Zag 29 _ ⟨g2, 1, none⟩ _ _ rfl (by kernel_rfl) (by rw [cell_of_row _ _ _ _ _ _ hr4]; rfl) Tryz.underlying29 rfl) ?_
      refine rp 29 (.pointer (some ⟨g2, 2, none⟩)) ?_
      refine rv 30 (.slice b m d) (fun _ => Zag 29 _ ⟨g2, 2, none⟩ _ _ rfl (by kernel_rfl) (by rw [cell_of_row _ _ _ _ _ _ hr4]; rfl) Tryz.underlying29 rfl) ?_
      refine Zak 31 18 #[.pointer (some ⟨g, 0, none⟩), .slice a n c, .slice b m d] (fun _ => by kernel_rfl) (fun _ => by kernel_rfl) (R := RPut w9 g gK gU kn (putQ kn t0 key y)) (Zlz hP hkey hy) ?_
      rintro _ w39 ⟨⟨us41, hP40⟩, rfl, hT42⟩
      have hT : T2 g gU w w39 := (T2.of (TU.of hB)).trans hT42
      replace hr4 := hr4.t2 hT42 (by omega) (by omega)
      replace hr8 := hr8.t2 hT42 (by omega) (by omega)
      replace hr12 := hr12.t2 hT42 (by omega) (by omega)
      replace hkey := hkey.nt hT42.n
      replace hy := hy.nt hT42.n
      replace hP := hP40
      refine rp 32 (.pointer (some ⟨g10, 2, none⟩)) ?_
      refine Zb0 g10 (2) (.int .i64 (putQ kn t0 key y).2) (fun _ => by kernel_rfl) (fun _ => Zbr 32 _ _ g10 _ _ 34 _ hr12 rfl (by kernel_rfl) (by kernel_rfl) (by rw [Zbu (show z32.length = 32 from rfl)]; omega) rfl rfl (by kernel_rfl)) ?_
      intro w43 hs44
      have ho45 := hr12
      replace hr12 := hr12.set (cells' := (tdc (.slice none 0 0) false ((putQ kn t0 key y).2) z32)) hs44 Zib
      have hnt46 : Nt _ _ := Nt.cells ho45 hr12 hs44.touch (Zci (fun _ e9 => by cases e9))
      replace hP := hP.keep hnt46 (hs44.touch.block _ hP.lt (by omega)) (hs44.touch.block _ hP.km.lt (by omega)) (hP.um.keep (hs44.touch.block _ hP.um.lt (by omega)))
      replace hkey := hkey.nt hnt46
      replace hy := hy.nt hnt46
      replace hr4 := hr4.past hs44.touch (by omega)
      replace hr8 := hr8.past hs44.touch (by omega)
      replace hT := hT.tou hs44.touch hzg10
      refine Zad ?_
      refine Zau ?_
      refine Zab ?_
      refine Zac ?_
      refine Zaa ?_
      refine rv 44 (.agg (tdc (.slice none 0 0) false ((putQ kn t0 key y).2) z32)) (fun _ => Za2 34 _ _ _ _ _ _ rfl (by kernel_rfl) hr12 Tryz.underlying34 rfl (Zc6 (show z32.length = 32 from rfl))) ?_
      refine Zav g6 (tdc (.slice none 0 0) false ((putQ kn t0 key y).2) z32) (fun _ => by kernel_rfl) (fun _ => Zao 34 _ _ _ _ _ 34 rfl (by kernel_rfl) (by kernel_rfl) hr8 (Zc6 (show z32.length = 32 from rfl)) (Zja (show z32.length = 32 from rfl) (show z32.length = 32 from rfl)) (Zgd rfl)) ?_
      intro w47 hp48
      have ho49 := hr8
      replace hr8 : Rw g6 w47 (tdc (.slice none 0 0) false ((putQ kn t0 key y).2) z32) 34 := hp48.row hr8
      have hnt50 : Nt _ _ := Nt.cells ho49 hr8 hp48.touch (Zci (fun _ e9 => by cases e9))
      replace hP := hP.keep hnt50 (hp48.touch.block _ hP.lt (by omega)) (hp48.touch.block _ hP.km.lt (by omega)) (hP.um.keep (hp48.touch.block _ hP.um.lt (by omega)))
      replace hkey := hkey.nt hnt50
      replace hy := hy.nt hnt50
      replace hr4 := hr4.past hp48.touch (by omega)
      replace hr12 := hr12.past hp48.touch (by omega)
      replace hT := hT.tou hp48.touch hzg6
      refine Zad ?_
      refine Zab ?_
      refine Zap ?_
      refine Zae (.agg (tdc (.slice none 0 0) false ((putQ kn t0 key y).2) z32)) (fun _ => Zch rfl _ g6 _ (by kernel_rfl) hr8 Tryz.underlying34 rfl (Zc6 (show z32.length = 32 from rfl))) ?_
      unfold callP
      rw [if_neg (show ¬ k = 0 by simpa using hq13)]
      rw [if_pos (show k = 1 by simpa using hq38)]
      exact ⟨_, rfl, ⟨_, hP⟩, ⟨_, _, _, rfl, Sk.nil _ _⟩, hT⟩
    | false =>
      refine Zaf (fun _ => by kernel_rfl) ?_
      refine Zac ?_
      refine Zaa ?_
      refine rp 34 (.bool ((k : Int) == (2 : Int))) ?_
      refine rp 33 (.bool ((k : Int) == (2 : Int))) ?_
      refine Zad ?_
      refine Zab ?_
      cases hq51 : ((k : Int) == (2 : Int)) with
      | true =>
        refine Zai (fun _ => by kernel_rfl) ?_
        refine Zaa ?_
        refine rp 36 (.pointer (some ⟨g, 0, none⟩)) ?_
        refine rp 37 (.pointer (some ⟨g2, 1, none⟩)) ?_
        refine rv 38 (.slice a n c) (fun _ => Zag 29 _ ⟨g2, 1, none⟩ _ _ rfl (by kernel_rfl) (by rw [cell_of_row _ _ _ _ _ _ hr4]; rfl) Tryz.underlying29 rfl) ?_
        refine Zak 39 21 #[.pointer (some ⟨g, 0, none⟩), .slice a n c] (fun _ => by kernel_rfl) (fun _ => by kernel_rfl) (R := RDel w9 g gK gU kn (delQ kn t0 key)) (Zse hP hkey) ?_
        rintro _ w52 ⟨⟨us54, hP53⟩, rfl, hT55⟩
        have hT : T2 g gU w w52 := (T2.of (TU.of hB)).trans hT55
        replace hr4 := hr4.t2 hT55 (by omega) (by omega)
        replace hr8 := hr8.t2 hT55 (by omega) (by omega)
        replace hr12 := hr12.t2 hT55 (by omega) (by omega)
        replace hkey := hkey.nt hT55.n
        replace hy := hy.nt hT55.n
        replace hP := hP53
        refine rp 35 (.tuple #[.bool (delQ kn t0 key).2.1, .int .i64 (delQ kn t0 key).2.2]) ?_
        refine rp 40 (.bool (delQ kn t0 key).2.1) ?_
        refine rp 41 (.int .i64 (delQ kn t0 key).2.2) ?_
        refine rp 42 (.pointer (some ⟨g10, 1, none⟩)) ?_
        refine Zb0 g10 (1) (.bool (delQ kn t0 key).2.1) (fun _ => by kernel_rfl) (fun _ => Zbr 4 _ _ g10 _ _ 34 _ hr12 rfl (by kernel_rfl) (by kernel_rfl) (by rw [Zbu (show z32.length = 32 from rfl)]; omega) rfl rfl (by kernel_rfl)) ?_
        intro w56 hs57
        have ho58 := hr12
        replace hr12 := hr12.set (cells' := (tdc (.slice none 0 0) ((delQ kn t0 key).2.1) 0 z32)) hs57 Zlm
        have hnt59 : Nt _ _ := Nt.cells ho58 hr12 hs57.touch (Zci (fun _ e9 => by cases e9))
        replace hP := hP.keep hnt59 (hs57.touch.block _ hP.lt (by omega)) (hs57.touch.block _ hP.km.lt (by omega)) (hP.um.keep (hs57.touch.block _ hP.um.lt (by omega)))
        replace hkey := hkey.nt hnt59
        replace hy := hy.nt hnt59
        replace hr4 := hr4.past hs57.touch (by omega)
        replace hr8 := hr8.past hs57.touch (by omega)
        replace hT := hT.tou hs57.touch hzg10
        refine rp 43 (.pointer (some ⟨g10, 2, none⟩)) ?_
        refine Zb0 g10 (2) (.int .i64 (delQ kn t0 key).2.2) (fun _ => by kernel_rfl) (fun _ => Zbr 32 _ _ g10 _ _ 34 _ hr12 rfl (by kernel_rfl) (by kernel_rfl) (by rw [Zbu (show z32.length = 32 from rfl)]; omega) rfl rfl (by kernel_rfl)) ?_
        intro w60 hs61
        have ho62 := hr12
        replace hr12 := hr12.set (cells' := (tdc (.slice none 0 0) ((delQ kn t0 key).2.1) ((delQ kn t0 key).2.2) z32)) hs61 Zib
        have hnt63 : Nt _ _ := Nt.cells ho62 hr12 hs61.touch (Zci (fun _ e9 => by cases e9))
        replace hP := hP.keep hnt63 (hs61.touch.block _ hP.lt (by omega)) (hs61.touch.block _ hP.km.lt (by omega)) (hP.um.keep (hs61.touch.block _ hP.um.lt (by omega)))
        replace hkey := hkey.nt hnt63
        replace hy := hy.nt hnt63
        replace hr4 := hr4.past hs61.touch (by omega)
        replace hr8 := hr8.past hs61.touch (by omega)
        replace hT := hT.tou hs61.touch hzg10
        refine Zad ?_
        refine Zau ?_
        refine Zab ?_
        refine Zac ?_
        refine Zaa ?_
        refine rv 44 (.agg (tdc (.slice none 0 0) ((delQ kn t0 key).2.1) ((delQ kn t0 key).2.2) z32)) (fun _ => Za2 34 _ _ _ _ _ _ rfl (by kernel_rfl) hr12 Tryz.underlying34 rfl (Zc6 (show z32.length = 32 from rfl))) ?_
        refine Zav g6 (tdc (.slice none 0 0) ((delQ kn t0 key).2.1) ((delQ kn t0 key).2.2) z32) (fun _ => by kernel_rfl) (fun _ => Zao 34 _ _ _ _ _ 34 rfl (by kernel_rfl) (by kernel_rfl) hr8 (Zc6 (show z32.length = 32 from rfl)) (Zja (show z32.length = 32 from rfl) (show z32.length = 32 from rfl)) (Zgd rfl)) ?_
        intro w64 hp65
        have ho66 := hr8
        replace hr8 : Rw g6 w64 (tdc (.slice none 0 0) ((delQ kn t0 key).2.1) ((delQ kn t0 key).2.2) z32) 34 := hp65.row hr8
        have hnt67 : Nt _ _ := Nt.cells ho66 hr8 hp65.touch (Zci (fun _ e9 => by cases e9))
        replace hP := hP.keep hnt67 (hp65.touch.block _ hP.lt (by omega)) (hp65.touch.block _ hP.km.lt (by omega)) (hP.um.keep (hp65.touch.block _ hP.um.lt (by omega)))
        replace hkey := hkey.nt hnt67
        replace hy := hy.nt hnt67
        replace hr4 := hr4.past hp65.touch (by omega)
        replace hr12 := hr12.past hp65.touch (by omega)
        replace hT := hT.tou hp65.touch hzg6
        refine Zad ?_
        refine Zab ?_
        refine Zap ?_
        refine Zae (.agg (tdc (.slice none 0 0) ((delQ kn t0 key).2.1) ((delQ kn t0 key).2.2) z32)) (fun _ => Zch rfl _ g6 _ (by kernel_rfl) hr8 Tryz.underlying34 rfl (Zc6 (show z32.length = 32 from rfl))) ?_
        unfold callP
        rw [if_neg (show ¬ k = 0 by simpa using hq13)]
        rw [if_neg (show ¬ k = 1 by simpa using hq38)]
        rw [if_pos (show k = 2 by simpa using hq51)]
        exact ⟨_, rfl, ⟨_, hP⟩, ⟨_, _, _, rfl, Sk.nil _ _⟩, hT⟩
      | false =>
        refine Zaf (fun _ => by kernel_rfl) ?_
        refine Zaa ?_
        refine rp 8 (.pointer (some ⟨g, 0, none⟩)) ?_
        refine Zak 9 11 #[.pointer (some ⟨g, 0, none⟩)] (fun _ => by kernel_rfl) (fun _ => by kernel_rfl) (R := RVl w9 (.agg (B8 (rtP t0)))) (Zeq hP) ?_
        rintro _ w68 ⟨rfl, hb69⟩
        replace hB := hB.go hb69
        replace hP := hP.go hb69
        replace hkey := hkey.go hb69
        replace hy := hy.go hb69
        replace hr4 := hr4.go hb69
        replace hr8 := hr8.go hb69
        replace hr12 := hr12.go hb69
        refine rp 10 (.pointer (some ⟨g10, 3, none⟩)) ?_
        refine rw_s (fun _ => by kernel_rfl) (fun _ => Zpg _ _ hr12 (show z32.length = 32 from rfl) hrl rfl (by kernel_rfl) (by kernel_rfl)) ?_
        have hst := St.of w68 g10 3 ((rtP t0).map (Value.int .u8))
        have hrm := Zu0 hr12 (show z32.length = 32 from rfl) hrl
        obtain ⟨w70, hw9⟩ : ∃ w9, (w68).setCells g10 3 ((rtP t0).map (Value.int .u8)) = w9 := ⟨_, rfl⟩
        rw [hw9] at hst hrm ⊢
        have ht9 : Touch g10 w68 w70 := ⟨hst.os, hst.tape, hst.output, by rw [hst.size]; exact Nat.le_refl _, fun k9 _ h9 => hst.other k9 h9⟩
        have ho71 := hr12
        replace hr12 := hrm
        replace hB := hB.tou ht9 hzg10
        replace hr4 := hr4.past ht9 (by omega)
        replace hr8 := hr8.past ht9 (by omega)
        refine Zad ?_
        refine Zau ?_
        refine Zab ?_
        refine Zac ?_
        refine Zaa ?_
        refine rv 44 (.agg (tdc (.slice none 0 0) false 0 (rtP t0))) (fun _ => Za2 34 _ _ _ _ _ _ rfl (by kernel_rfl) hr12 Tryz.underlying34 rfl (Zc6 hrl)) ?_
        refine Zav g6 (tdc (.slice none 0 0) false 0 (rtP t0)) (fun _ => by kernel_rfl) (fun _ => Zao 34 _ _ _ _ _ 34 rfl (by kernel_rfl) (by kernel_rfl) hr8 (Zc6 hrl) (Zja (show z32.length = 32 from rfl) hrl) (Zgd rfl)) ?_
        intro w73 hp74
        have ho75 := hr8
        replace hr8 : Rw g6 w73 (tdc (.slice none 0 0) false 0 (rtP t0)) 34 := hp74.row hr8
        replace hB := hB.tou hp74.touch hzg6
        replace hr4 := hr4.past hp74.touch (by omega)
        replace hr12 := hr12.past hp74.touch (by omega)
        refine Zad ?_
        refine Zab ?_
        refine Zap ?_
        refine Zae (.agg (tdc (.slice none 0 0) false 0 (rtP t0))) (fun _ => Zch rfl _ g6 _ (by kernel_rfl) hr8 Tryz.underlying34 rfl (Zc6 hrl)) ?_
        unfold callP
        rw [if_neg (show ¬ k = 0 by simpa using hq13)]
        rw [if_neg (show ¬ k = 1 by simpa using hq38)]
        rw [if_neg (show ¬ k = 2 by simpa using hq51)]
        exact ⟨_, rfl, ⟨_, hP0.go hB⟩, ⟨_, _, _, rfl, Sk.nil _ _⟩, T2.of (TU.of hB)⟩
set_option maxHeartbeats 1000000 in
theorem Zk1 {v : List Int} {e : Int} (h1 : Sk An w a n c v) (h2 : Sk An w a' n' c' v) (hd : d.length = 32) : Calls Tryz.prog 10 #[.agg (tdc (.slice a n c) true e d), .agg (tdc (.slice a' n' c') true e d)] w fun e w' => ∃ v', e = .returned v' ∧ RVl w (.bool true) v' w' := by
  have hB : Bl w w := Bl.refl w
  refine Zaj Tryz.func10 rfl 31 rfl ?_
  show CW _ _ _ _ _ _ _ [(0, .agg (tdc (.slice a n c) true e d)), (1, .agg (tdc (.slice a' n' c') true e d))] _
  refine Zac ?_
  refine Zaa ?_
  refine Zar 2 (tdc (.slice a n c) true e d) 34 (fun _ => by kernel_rfl) (fun _ => by kernel_rfl) ?_
  intro w1 g2 hn3
  have hzg2 : w.heap.size ≤ g2 := by have := hB.size; have := hn3.hg; omega
  replace hB := hB.go hn3.below
  replace h1 := h1.go hn3.below
  replace h2 := h2.go hn3.below
  have hr4 : Rw g2 w1 (tdc (.slice a n c) true e d) 34 := hn3.row
  refine Zar 3 (tdc (.slice a' n' c') true e d) 34 (fun _ => by kernel_rfl) (fun _ => by kernel_rfl) ?_
  intro w5 g6 hn7
  have hlg2g6 : g2 < g6 := by have := hr4.lt; have := hn7.hg; omega
  have hzg6 : w.heap.size ≤ g6 := by have := hB.size; have := hn7.hg; omega
  replace hB := hB.go hn7.below
  replace h1 := h1.go hn7.below
  replace h2 := h2.go hn7.below
  replace hr4 := hr4.go hn7.below
  have hr8 : Rw g6 w5 (tdc (.slice a' n' c') true e d) 34 := hn7.row
  refine rp 4 (.bool false) ?_
  refine Zad ?_
  refine Zab ?_
  refine Zac ?_
  refine Zaa ?_
  refine rp 5 (.pointer (some ⟨g2, 0, none⟩)) ?_
  refine rv 6 (.slice a n c) (fun _ => Zag 29 _ ⟨g2, 0, none⟩ _ _ rfl (by kernel_rfl) (by rw [cell_of_row _ _ _ _ _ _ hr4]; exact tdc0) Tryz.underlying29 rfl) ?_
  refine rp 7 (.pointer (some ⟨g6, 0, none⟩)) ?_
  refine rv 8 (.slice a' n' c') (fun _ => Zag 29 _ ⟨g6, 0, none⟩ _ _ rfl (by kernel_rfl) (by rw [cell_of_row _ _ _ _ _ _ hr8]; exact tdc0) Tryz.underlying29 rfl) ?_
  refine Zak 9 20 #[.slice a n c, .slice a' n' c'] (fun _ => by kernel_rfl) (fun _ => by kernel_rfl) (R := RVl w5 (.bool true)) (Zgt h1 h2) ?_
  rintro _ w9 ⟨rfl, hb10⟩
  replace hB := hB.go hb10
  replace h1 := h1.go hb10
  replace h2 := h2.go hb10
  replace hr4 := hr4.go hb10
  replace hr8 := hr8.go hb10
  refine rp 10 (.bool true) ?_
  refine rp 11 (.pointer (some ⟨g2, 1, none⟩)) ?_
  refine rv 12 (.bool true) (fun _ => Zag 4 _ ⟨g2, 1, none⟩ _ _ rfl (by kernel_rfl) (by rw [cell_of_row _ _ _ _ _ _ hr4]; exact tdc1) Tryz.underlying4 rfl) ?_
  refine rp 13 (.pointer (some ⟨g6, 1, none⟩)) ?_
  refine rv 14 (.bool true) (fun _ => Zag 4 _ ⟨g6, 1, none⟩ _ _ rfl (by kernel_rfl) (by rw [cell_of_row _ _ _ _ _ _ hr8]; exact tdc1) Tryz.underlying4 rfl) ?_
  refine rp 15 (.bool true) ?_
  refine rp 16 (.bool true) ?_
  refine rp 17 (.bool true) ?_
  refine rp 18 (.pointer (some ⟨g2, 2, none⟩)) ?_
  refine rv 19 (.int .i64 e) (fun _ => Zag 32 _ ⟨g2, 2, none⟩ _ _ rfl (by kernel_rfl) (by rw [cell_of_row _ _ _ _ _ _ hr4]; exact tdc2) Tryz.underlying32 rfl) ?_
  refine rp 20 (.pointer (some ⟨g6, 2, none⟩)) ?_
  refine rv 21 (.int .i64 e) (fun _ => Zag 32 _ ⟨g6, 2, none⟩ _ _ rfl (by kernel_rfl) (by rw [cell_of_row _ _ _ _ _ _ hr8]; exact tdc2) Tryz.underlying32 rfl) ?_
  refine rv 22 (.bool true) (fun _ => Zal (v := .bool ((e : Int) == (e : Int))) (by kernel_rfl) (congrArg Value.bool (beq_self_eq_true _))) ?_
  refine rp 23 (.bool true) ?_
  refine rp 24 (.bool true) ?_
  refine rp 25 (.pointer (some ⟨g2, 3, none⟩)) ?_
  refine rv 26 (.agg (B8 d)) (fun _ => Zb2 23 _ _ _ _ _ rfl (by kernel_rfl) (Zic hr4) Tryz.underlying23 rfl (by rw [List.length_map, hd]; kernel_rfl)) ?_
  refine rp 27 (.pointer (some ⟨g6, 3, none⟩)) ?_
  refine rv 28 (.agg (B8 d)) (fun _ => Zb2 23 _ _ _ _ _ rfl (by kernel_rfl) (Zic hr8) Tryz.underlying23 rfl (by rw [List.length_map, hd]; kernel_rfl)) ?_
  refine rv 29 (.bool true) (fun _ => Zal (Zpl (xs := d) (ys := d) rfl (by kernel_rfl) (by kernel_rfl) hd hd) (congrArg Value.bool (beq_self_eq_true _))) ?_
  refine rp 30 (.bool true) ?_
  refine rp 4 (.bool true) ?_
  refine Zad ?_
  refine Zab ?_
  refine Zap ?_
  refine Zae (.bool true) (fun _ => by kernel_rfl) ?_
  exact ⟨_, rfl, rfl, hB⟩
set_option maxHeartbeats 1000000 in
theorem Zjx {v : List Int} {e : Int} (h1 : Sk An w a n c v) (h2 : Sk An w a' n' c' v) (hd : d.length = 32) : Calls Tryz.prog 10 #[.agg (tdc (.slice a n c) false e d), .agg (tdc (.slice a' n' c') false e d)] w fun e w' => ∃ v', e = .returned v' ∧ RVl w (.bool true) v' w' := by
  have hB : Bl w w := Bl.refl w
  refine Zaj Tryz.func10 rfl 31 rfl ?_
  show CW _ _ _ _ _ _ _ [(0, .agg (tdc (.slice a n c) false e d)), (1, .agg (tdc (.slice a' n' c') false e d))] _
  refine Zac ?_
  refine Zaa ?_
  refine Zar 2 (tdc (.slice a n c) false e d) 34 (fun _ => by kernel_rfl) (fun _ => by kernel_rfl) ?_
  intro w1 g2 hn3
  have hzg2 : w.heap.size ≤ g2 := by have := hB.size; have := hn3.hg; omega
  replace hB := hB.go hn3.below
  replace h1 := h1.go hn3.below
  replace h2 := h2.go hn3.below
  have hr4 : Rw g2 w1 (tdc (.slice a n c) false e d) 34 := hn3.row
  refine Zar 3 (tdc (.slice a' n' c') false e d) 34 (fun _ => by kernel_rfl) (fun _ => by kernel_rfl) ?_
  intro w5 g6 hn7
  have hlg2g6 : g2 < g6 := by have := hr4.lt; have := hn7.hg; omega
  have hzg6 : w.heap.size ≤ g6 := by have := hB.size; have := hn7.hg; omega
  replace hB := hB.go hn7.below
  replace h1 := h1.go hn7.below
  replace h2 := h2.go hn7.below
  replace hr4 := hr4.go hn7.below
  have hr8 : Rw g6 w5 (tdc (.slice a' n' c') false e d) 34 := hn7.row
  refine rp 4 (.bool false) ?_
  refine Zad ?_
  refine Zab ?_
  refine Zac ?_
  refine Zaa ?_
  refine rp 5 (.pointer (some ⟨g2, 0, none⟩)) ?_
  refine rv 6 (.slice a n c) (fun _ => Zag 29 _ ⟨g2, 0, none⟩ _ _ rfl (by kernel_rfl) (by rw [cell_of_row _ _ _ _ _ _ hr4]; exact tdc0) Tryz.underlying29 rfl) ?_
  refine rp 7 (.pointer (some ⟨g6, 0, none⟩)) ?_
  refine rv 8 (.slice a' n' c') (fun _ => Zag 29 _ ⟨g6, 0, none⟩ _ _ rfl (by kernel_rfl) (by rw [cell_of_row _ _ _ _ _ _ hr8]; exact tdc0) Tryz.underlying29 rfl) ?_
  refine Zak 9 20 #[.slice a n c, .slice a' n' c'] (fun _ => by kernel_rfl) (fun _ => by kernel_rfl) (R := RVl w5 (.bool true)) (Zgt h1 h2) ?_
  rintro _ w9 ⟨rfl, hb10⟩
  replace hB := hB.go hb10
  replace h1 := h1.go hb10
  replace h2 := h2.go hb10
  replace hr4 := hr4.go hb10
  replace hr8 := hr8.go hb10
  refine rp 10 (.bool true) ?_
  refine rp 11 (.pointer (some ⟨g2, 1, none⟩)) ?_
  refine rv 12 (.bool false) (fun _ => Zag 4 _ ⟨g2, 1, none⟩ _ _ rfl (by kernel_rfl) (by rw [cell_of_row _ _ _ _ _ _ hr4]; exact tdc1) Tryz.underlying4 rfl) ?_
  refine rp 13 (.pointer (some ⟨g6, 1, none⟩)) ?_
  refine rv 14 (.bool false) (fun _ => Zag 4 _ ⟨g6, 1, none⟩ _ _ rfl (by kernel_rfl) (by rw [cell_of_row _ _ _ _ _ _ hr8]; exact tdc1) Tryz.underlying4 rfl) ?_
  refine rp 15 (.bool true) ?_
  refine rp 16 (.bool true) ?_
  refine rp 17 (.bool true) ?_
  refine rp 18 (.pointer (some ⟨g2, 2, none⟩)) ?_
  refine rv 19 (.int .i64 e) (fun _ => Zag 32 _ ⟨g2, 2, none⟩ _ _ rfl (by kernel_rfl) (by rw [cell_of_row _ _ _ _ _ _ hr4]; exact tdc2) Tryz.underlying32 rfl) ?_
  refine rp 20 (.pointer (some ⟨g6, 2, none⟩)) ?_
  refine rv 21 (.int .i64 e) (fun _ => Zag 32 _ ⟨g6, 2, none⟩ _ _ rfl (by kernel_rfl) (by rw [cell_of_row _ _ _ _ _ _ hr8]; exact tdc2) Tryz.underlying32 rfl) ?_
  refine rv 22 (.bool true) (fun _ => Zal (v := .bool ((e : Int) == (e : Int))) (by kernel_rfl) (congrArg Value.bool (beq_self_eq_true _))) ?_
  refine rp 23 (.bool true) ?_
  refine rp 24 (.bool true) ?_
  refine rp 25 (.pointer (some ⟨g2, 3, none⟩)) ?_
  refine rv 26 (.agg (B8 d)) (fun _ => Zb2 23 _ _ _ _ _ rfl (by kernel_rfl) (Zic hr4) Tryz.underlying23 rfl (by rw [List.length_map, hd]; kernel_rfl)) ?_
  refine rp 27 (.pointer (some ⟨g6, 3, none⟩)) ?_
  refine rv 28 (.agg (B8 d)) (fun _ => Zb2 23 _ _ _ _ _ rfl (by kernel_rfl) (Zic hr8) Tryz.underlying23 rfl (by rw [List.length_map, hd]; kernel_rfl)) ?_
  refine rv 29 (.bool true) (fun _ => Zal (Zpl (xs := d) (ys := d) rfl (by kernel_rfl) (by kernel_rfl) hd hd) (congrArg Value.bool (beq_self_eq_true _))) ?_
  refine rp 30 (.bool true) ?_
  refine rp 4 (.bool true) ?_
  refine Zad ?_
  refine Zab ?_
  refine Zap ?_
  refine Zae (.bool true) (fun _ => by kernel_rfl) ?_
  exact ⟨_, rfl, rfl, hB⟩
theorem Znj {r : Td} {u u' : Value} (h1 : RTo r u w) (h2 : RTo r u' w) (hd : r.d.length = 32) : Calls Tryz.prog 10 #[u, u'] w fun e w' => ∃ v', e = .returned v' ∧ RVl w (.bool true) v' w' := by
  obtain ⟨v, b, e, d⟩ := r
  obtain ⟨a, n, c, rfl, h3⟩ := h1
  obtain ⟨a', n', c', rfl, h4⟩ := h2
  cases b
  · exact Zjx h3 h4 hd
  · exact Zk1 h3 h4 hd
end Go.Proofs.YtchgejomcgoaeaaGreat
namespace Go.Proofs.YtchgejomcgoaeaaGreat
open Go.RowKit
open Go.ChangeMaps (setBlock)
open Di (dref)
open Pt
variable {w : World} {g : Nat} {d : List Int}
theorem Zx9 : ∃ i, Tryz.prog.info? 29 = some i ∧ i.zero = some (.slice none 0 0) ∧ i.size = 1 ∧ i.bytes = 24 := by
  have hs : (Tryz.prog.info? 29).map (fun i => (i.zero, i.size, i.bytes)) = some (some (.slice none 0 0), 1, 24) := by kernel_rfl
  cases hq : Tryz.prog.info? 29 with
  | none => simp [hq] at hs
  | some i =>
    rw [hq] at hs
    simp only [Option.map_some, Option.some.injEq, Prod.mk.injEq] at hs
    exact ⟨i, rfl, hs.1, hs.2.1, hs.2.2⟩
theorem app1 {x : Value} (hx1 : x.oneCell' = true) (h : Rw g w #[x] 29) : ∃ v' w', (∀ ty, (Builtin.append_ #[24, 24] ty #[.slice none 0 0, .slice (some ⟨g, 0, none⟩) 1 1]).run Tryz.prog w = .ok v' w') ∧ (∃ a c, v' = .slice a 1 c) ∧ Bl w w' := by
  obtain ⟨i, hi, hz, hsz, hby⟩ := Zx9
  obtain ⟨v', w', hrun, hown', hgr, _⟩ := run_append_own (P := Tryz.prog) w w.heap.size 24 0 29 i _ 1 24 Tryz.underlying24 hi hz hsz hby rfl (by decide) (.slice none 0 0) 0 [] (World.ownsRow_nil w _ _ 1) ⟨g, 0, none⟩ 1 1 [x] rfl (fun j y hy => by
    rw [Zbb, Nat.zero_add, cell_of_row _ _ _ _ _ _ h]
    match j with
    | 0 => exact hy
    | n + 1 => simp at hy) (fun y hy => by rw [List.mem_singleton.1 hy]; exact hx1) (by unfold maxLen; omega) (by omega) (Nat.le_refl _)
  refine ⟨v', w', fun ty => hrun, ?_, (Below.refl _ _).grown hgr (Nat.le_refl _) (fun k hk => by simp [Value.ownBlock] at hk)⟩
  obtain ⟨h2, h3⟩ := hown'
  rcases h3 with ⟨rfl, h5⟩ | ⟨g', cap, cur, rfl, _⟩
  · omega
  · exact ⟨_, _, rfl⟩
theorem Zvj {w w' : World} {v u r : Value} {ρ : Operand → Value} {o : Oper} (hr : ∀ ty, (Builtin.append_ #[24, 24] ty #[v, u]).run Tryz.prog w = .ok r w') (x y : Operand) (ho : o.op = .call { callee := .builtin .append, args := #[x, y], argTypes := #[24, 24] }) (hx : ρ x = v) (hy : ρ y = u) : (execOp ρ o).run Tryz.prog w = .ok (.value r) w' := by
  unfold execOp
  simp only [ho, resolve, invoke, builtin, Sem.run_bind, Sem.run_pure, Result.andThen_ok, List.map_toArray, List.map_cons, List.map_nil, hx, hy, hr]
theorem Zsu {w : World} {m : Nat} {kn : Kn} (h : MKn w m kn) {d : List Int} (hd : d.length = 32) {t : Pt} (hf : findK d kn = some t) : ∃ x, (∀ v : World, v.heap[m]? = w.heap[m]? → ∀ (ρ : Operand → Value) (o : Oper) (x1 y1 : Operand), o.op = .lookup 44 x1 y1 false → ρ x1 = .map (some m) → ρ y1 = .agg (B8 d) → (execOp ρ o).run Tryz.prog v = .ok (.value x) v) ∧ ThA w t x := by
  obtain ⟨es, clock, hm, he⟩ := h
  have hfind := he.find (d := d)
  cases hq : findI d (kn.map (·.1)) with
  | none =>
    rw [hq] at hfind
    simp only at hfind
    rw [hf] at hfind
    cases hfind
  | some j =>
    rw [hq] at hfind
    simp only at hfind
    obtain ⟨e, t', h1, h2, h3⟩ := hfind
    rw [hf] at h2
    cases h2
    refine ⟨e.val, fun v hv ρ o x y ho hx hy => ?_, h3⟩
    have hf2 := Zf0 d hd v es.toList _ he.keys
    rw [hq] at hf2
    simp only at hf2
    rw [h1] at hf2
    unfold execOp
    simp [ho, hx, hy, Instr.lookup, run_underlying Tryz.underlying44, MapKept.run_getObj_map (hv.trans hm), Zb3 d hd, hf2, Result.andThen]
theorem MUs.one {m : Nat} (h : MUs w m [d]) : ∃ ev b clock, w.heap[m]? = some (.map #[{ key := .agg (B8 d), val := ev, born := b }] clock) ∧ b < clock := by
  obtain ⟨es, clock, h1, ⟨h2, _⟩, h3⟩ := h
  obtain ⟨l⟩ := es
  match l, h1, h2, h3 with
  | [e], h1, h2, h3 =>
    obtain ⟨k, ev, b⟩ := e
    have hk : k = .agg (B8 d) := by simpa using h2
    subst hk
    exact ⟨ev, b, clock, h1, h3.1 _ (List.mem_singleton.2 rfl)⟩
  | [], h1, h2, h3 => simp at h2
  | e1 :: e2 :: r, h1, h2, h3 => simp at h2
section
variable {w : World} {ρ : Operand → Value} {o : Oper} {r m clock b : Nat} {kv ev : Value}
theorem Zvh (x : Operand) {es : Array MapEntry} (ho : o.op = .range 46 x) (hx : ρ x = .map (some m)) (hm : w.heap[m]? = some (.map es clock)) : (execOp ρ o).run Tryz.prog w = .ok (.value (.pointer (some ⟨w.heap.size, 0, none⟩))) (w.alloc (.mapIter (some m) clock #[] clock)) := by
  unfold execOp
  rw [ho]
  simp only [hx, Sem.run_bind, run_range_map w 46 _ _ m es clock Tryz.underlying46 hm, Result.andThen_ok, Sem.run_pure]
theorem Zoq (ty : TypeId) (hr : w.heap[r]? = some (.mapIter (some m) clock #[] clock)) (hm : w.heap[m]? = some (.map #[{ key := kv, val := ev, born := b }] clock)) (hb : b < clock) : (Instr.next (.pointer (some ⟨r, 0, none⟩)) false ty).run Tryz.prog w = .ok (.tuple #[.bool true, kv, ev]) (setBlock w r (.mapIter (some m) clock #[b] clock)) := by
  have hle : ¬ clock ≤ b := by omega
  simp [Instr.next, getObj, Sem.run, hr, hm, Result.andThen, choose, Question.forced, hb, hle, setObj, setBlock]
theorem Zsl (x : Operand) (ho : o.op = .next x false) (hx : ρ x = .pointer (some ⟨r, 0, none⟩)) (hr : w.heap[r]? = some (.mapIter (some m) clock #[] clock)) (hm : w.heap[m]? = some (.map #[{ key := kv, val := ev, born := b }] clock)) (hb : b < clock) : (execOp ρ o).run Tryz.prog w = .ok (.value (.tuple #[.bool true, kv, ev])) (setBlock w r (.mapIter (some m) clock #[b] clock)) := by
  unfold execOp
  rw [ho]
  simp only [hx, Sem.run_bind, Zoq _ hr hm hb, Result.andThen_ok, Sem.run_pure]
theorem Zsk (x : Operand) (ho : o.op = .next x false) (hx : ρ x = .pointer (some ⟨r, 0, none⟩)) (hr : w.heap[r]? = some (.mapIter (some m) clock #[b] clock)) (hm : w.heap[m]? = some (.map #[{ key := kv, val := ev, born := b }] clock)) (hb : b < clock) : (execOp ρ o).run Tryz.prog w = .ok (.value (.tuple #[.bool false])) w := by
  have h1 : ∀ ty, (Instr.next (.pointer (some ⟨r, 0, none⟩)) false ty).run Tryz.prog w = .ok (.tuple #[.bool false]) w := fun ty => by
    rcases run_next_at (P := Tryz.prog) w ty r m clock clock #[b] _ clock hr hm (fun x hx => by rw [List.mem_singleton.1 hx]; exact hb) (Nat.le_refl _) with ⟨_, h⟩ | ⟨e, he, _⟩
    · exact h
    · simp [leftOf] at he
  unfold execOp
  rw [ho]
  simp only [hx, Sem.run_bind, h1, Result.andThen_ok, Sem.run_pure]
theorem Zpm (x : Operand) (ho : o.op = .entry x) (hx : ρ x = .pointer (some ⟨r, 0, none⟩)) (hr : w.heap[r]? = some (.mapIter (some m) clock #[b] clock)) (hm : w.heap[m]? = some (.map #[{ key := kv, val := ev, born := b }] clock)) : (execOp ρ o).run Tryz.prog w = .ok (.value (.tuple #[kv, ev])) w := by
  have h1 := run_entry_at (P := Tryz.prog) w r m clock #[] _ clock { key := kv, val := ev, born := b } hr hm (List.mem_singleton.2 rfl) (by simp)
  unfold execOp
  rw [ho]
  simp only [hx, Sem.run_bind, h1, Result.andThen_ok, Sem.run_pure]
end
set_option maxHeartbeats 1000000 in
theorem Zw3 {gK gU : Nat} {t0 t : Pt} {kn : Kn} (hP : PAt w g gK gU t0 kn [d]) (hd : d.length = 32) (hf : findK d kn = some t) (hnd : t.isNd = true) : Calls Tryz.prog 9 #[.pointer (some ⟨g, 0, none⟩)] w fun e w' => ∃ v', e = .returned v' ∧ (fun u w' => (∃ a c, u = .slice a 1 c) ∧ Bl w w') v' w' := by
  have hgP := hP.lt
  have hgK := hP.km.lt
  have hgU := hP.um.lt
  obtain ⟨ev, b, clock, hum, hbc⟩ := hP.um.one
  obtain ⟨vt, hrt, htt⟩ := hP.row
  have hB : Bl w w := Bl.refl w
  refine Zaj Tryz.func9 rfl 27 rfl ?_
  show CW _ _ _ _ _ _ _ [(0, .pointer (some ⟨g, 0, none⟩))] _
  refine Zac ?_
  refine Zaa ?_
  refine rp 2 (.slice none 0 0) ?_
  refine Zad ?_
  refine Zab ?_
  refine Zac ?_
  refine Zaa ?_
  refine rp 3 (.slice none 0 0) ?_
  refine Zad ?_
  refine Zab ?_
  refine Zac ?_
  refine Zac ?_
  refine Zaa ?_
  refine rp 5 (.pointer (some ⟨g, 0, none⟩)) ?_
  refine rp 6 (.pointer (some ⟨g, 0, none⟩)) ?_
  refine rp 7 (.pointer (some ⟨g, 2, none⟩)) ?_
  refine rv 8 (.map (some gU)) (fun _ => Zag 46 _ ⟨g, 2, none⟩ _ _ rfl (by kernel_rfl) (by rw [cell_of_row _ _ _ _ _ _ hrt]; rfl) Tryz.underlying46 rfl) ?_
  obtain ⟨gI, hgI⟩ : ∃ q, w.heap.size = q := ⟨_, rfl⟩
  refine rw_v 9 (.pointer (some ⟨gI, 0, none⟩)) (fun _ => by kernel_rfl) (fun _ => by rw [← hgI]; exact Zvh _ rfl (by kernel_rfl) hum) ?_
  have hI : (w.alloc (.mapIter (some gU) clock #[] clock)).heap[gI]? = some (.mapIter (some gU) clock #[] clock) := by rw [← hgI]; exact heap_alloc_new _ _
  have hb2 : Bl w (w.alloc (.mapIter (some gU) clock #[] clock)) := (Below.refl _ _).alloc (Nat.le_refl _) _
  obtain ⟨w2, hw2⟩ : ∃ q, w.alloc (.mapIter (some gU) clock #[] clock) = q := ⟨_, rfl⟩
  rw [hw2] at hI hb2 ⊢
  replace hB := hb2
  clear hb2
  refine Zad ?_
  refine Zab ?_
  refine Zan ?_
  refine Zb8 (X := Nat × Value) (fun x => [(3, x.2), (9, .pointer (some ⟨gI, 0, none⟩)), (2, .slice none 0 0), (0, .pointer (some ⟨g, 0, none⟩))]) (fun x v => Bl w v ∧ ((x.1 = 0 ∧ x.2 = .slice none 0 0 ∧ v.heap[gI]? = some (.mapIter (some gU) clock #[] clock)) ∨ (x.1 = 1 ∧ (∃ a c, x.2 = .slice a 1 c) ∧ v.heap[gI]? = some (.mapIter (some gU) clock #[b] clock)))) (fun x => 1 - x.1) (0, .slice none 0 0) (by exact ⟨fun _ => by kernel_rfl, ⟨fun _ => by kernel_rfl, ⟨fun _ => by kernel_rfl, ⟨fun _ => by kernel_rfl, trivial⟩⟩⟩⟩) ⟨hB, .inl ⟨rfl, rfl, hI⟩⟩ ?_
  clear hB hI
  rintro ⟨j, sl⟩ v ⟨hB, hcase⟩
  simp only at hcase
  have hPv := hP.go hB
  have humv := (hB.block gU hgU).trans hum
  rcases hcase with ⟨rfl, rfl, hI⟩ | ⟨rfl, ⟨a1, c1, rfl⟩, hI⟩
  · skip
    show CW _ _ _ _ _ _ _ [(3, .slice none 0 0), (9, .pointer (some ⟨gI, 0, none⟩)), (2, .slice none 0 0), (0, .pointer (some ⟨g, 0, none⟩))] _
    refine Zac ?_
    refine Zaa ?_
    refine rw_v 10 (.tuple #[.bool true, .agg (B8 d), ev]) (fun _ => by kernel_rfl) (fun _ => Zsl _ rfl (by kernel_rfl) hI humv hbc) ?_
    have hI2 : (setBlock v gI (.mapIter (some gU) clock #[b] clock)).heap[gI]? = some (.mapIter (some gU) clock #[b] clock) := Zcj hI
    have ht2 : Touch gI v (setBlock v gI (.mapIter (some gU) clock #[b] clock)) := Zbk _ _ _
    obtain ⟨w3, hw3⟩ : ∃ q, setBlock v gI (.mapIter (some gU) clock #[b] clock) = q := ⟨_, rfl⟩
    rw [hw3] at hI2 ht2 ⊢
    replace hB := hB.tou ht2 (by omega)
    replace humv := (hB.block gU hgU).trans hum
    replace hPv := hP.go hB
    clear hI
    have hI := hI2
    clear hI2
    refine rp 11 (.bool true) ?_
    refine Zad ?_
    refine Zab ?_
    refine Zac ?_
    refine Zai (fun _ => by kernel_rfl) ?_
    refine Zam ?_
    refine Zab ?_
    refine Zan ?_
    refine Zac ?_
    refine Zaa ?_
    refine rv 12 (.tuple #[.agg (B8 d), ev]) (fun _ => Zpm _ rfl (by kernel_rfl) hI humv) ?_
    refine rp 13 (.agg (B8 d)) ?_
    refine Zar 4 (B8 z32) 23 (fun _ => by kernel_rfl) (fun _ => by kernel_rfl) ?_
    intro w1 g2 hn3
    have hr4 : Rw g2 w1 (B8 z32) 23 := hn3.row
    refine Zav g2 (B8 d) (fun _ => by kernel_rfl) (fun _ => Zao 23 _ _ _ _ _ 23 rfl (by kernel_rfl) (by kernel_rfl) hr4 (Zbm hd) ((B8_size _).trans ((show z32.length = 32 from rfl).trans (hd.symm.trans (B8_size _).symm))) (B8_one _)) ?_
    intro w5 hp6
    replace hn3 := hn3.put hp6
    clear hr4
    have hzg2 : w.heap.size ≤ g2 := by have := hB.size; have := hn3.hg; omega
    replace hB := hB.go hn3.below
    replace hI := (hn3.below.block _ (lt_of_get hI)).trans hI
    have hr8 : Rw g2 w5 (B8 d) 23 := hn3.row
    refine Zad ?_
    refine Zab ?_
    replace hPv := hP.go hB
    obtain ⟨vt2, hrt2, htt2⟩ := hPv.row
    obtain ⟨lv, hlk, hth⟩ := Zsu hPv.km hd hf
    have hSS : (fun v => v.heap[gK]? = (w5).heap[gK]? ∧ Rw g v #[vt2, .map (some gK), .map (some gU)] 49 ∧ Rw g2 v (B8 d) 23) w5 := ⟨rfl, hrt2, hr8⟩
    have hgo : ∀ {v v' : World}, Below v.heap.size v v' → (fun v => v.heap[gK]? = (w5).heap[gK]? ∧ Rw g v #[vt2, .map (some gK), .map (some gU)] 49 ∧ Rw g2 v (B8 d) 23) v → gK < v.heap.size → (fun v => v.heap[gK]? = (w5).heap[gK]? ∧ Rw g v #[vt2, .map (some gK), .map (some gU)] 49 ∧ Rw g2 v (B8 d) 23) v' := fun hb h hk => ⟨(hb.block _ hk).trans h.1, h.2.1.go hb, h.2.2.go hb⟩
    refine Zbd (fun v => v.heap[gK]? = (w5).heap[gK]? ∧ Rw g v #[vt2, .map (some gK), .map (some gU)] 49 ∧ Rw g2 v (B8 d) 23) (by kernel_rfl) (hSS) ?_
    replace hSS := hgo (Below.refl _ _).drew hSS (by have := hB.size; omega)
    replace hB := hB.go (Below.refl _ _).drew
    replace hI := ((Below.refl _ _).drew.block _ (lt_of_get hI)).trans hI
    replace hr8 := hr8.go (Below.refl _ _).drew
    replace hth := hth.go (Below.refl _ _).drew
    refine dt 0 14 (.slice none 0 0) (fun v hv _ => by kernel_rfl) hSS ?_
    refine dt 1 15 (.pointer (some ⟨g, 0, none⟩)) (fun v hv _ => by kernel_rfl) hSS ?_
    refine dt 2 16 (.pointer (some ⟨g, 0, none⟩)) (fun v hv _ => by kernel_rfl) hSS ?_
    refine dt 3 17 (.pointer (some ⟨g, 1, none⟩)) (fun v hv _ => by kernel_rfl) hSS ?_
    refine dt 4 18 (.map (some gK)) (fun v hv _ => Zag 44 _ ⟨g, 1, none⟩ _ _ rfl (by kernel_rfl) (by rw [cell_of_row _ _ _ _ _ _ hv.2.1]; rfl) Tryz.underlying44 rfl) hSS ?_
    refine dt 5 19 (.agg (B8 d)) (fun v hv _ => Za2 23 _ _ _ _ _ _ rfl (by kernel_rfl) hv.2.2 Tryz.underlying23 rfl (Zbm hd)) hSS ?_
    refine dt 6 20 (lv) (fun v hv _ => hlk v hv.1 _ _ _ _ rfl (by kernel_rfl) (by kernel_rfl)) hSS ?_
    refine Zas [7] (by kernel_rfl) (by simp) ?_
    refine Za5 7 21 22 #[lv] rfl (fun _ => by kernel_rfl) (fun _ => by kernel_rfl) (R := REn w5.drew (encN (ndT t))) (Zyi hnd hth) (fun u w' h9 => hgo h9.2 hSS (by have := hB.size; omega)) ?_ Zaz
    rintro _ w12 ⟨⟨a9, n10, c11, rfl, ha13, hn14⟩, hb15⟩
    replace hSS := hgo hb15 hSS (by have := hB.size; omega)
    replace hB := hB.go hb15
    replace hI := (hb15.block _ (lt_of_get hI)).trans hI
    replace hr8 := hr8.go hb15
    replace hth := hth.go hb15
    refine Zas [8] (by kernel_rfl) (by simp) ?_
    refine Zlc 8 22 #[.slice a9 n10 c11] 29 1 rfl (fun _ => by kernel_rfl) (fun _ => by kernel_rfl) (fun w' g h9 => hgo h9.below hSS (by have := hB.size; omega)) ?_ Zaz
    intro w16 g17 hn18
    replace hSS := hgo hn18.below hSS (by have := hB.size; omega)
    replace hB := hB.go hn18.below
    replace hI := (hn18.below.block _ (lt_of_get hI)).trans hI
    replace hr8 := hr8.go hn18.below
    replace hth := hth.go hn18.below
    replace ha13 := ha13.go hn18.below
    have hrow : Rw g17 w16 #[.slice a9 n10 c11] 29 := hn18.row
    refine Zas [9] (by kernel_rfl) (by simp) ?_
    obtain ⟨vA, wA, hAr, ⟨aA, cA, rfl⟩, hAb⟩ := app1 rfl hrow
    refine ar_v 9 23 (.slice aA 1 cA) rfl (fun _ => by kernel_rfl) (fun _ => Zvj hAr _ _ rfl (by kernel_rfl) (by kernel_rfl)) (hgo hAb hSS (by have := hB.size; omega)) ?_ Zaz
    replace hSS := hgo hAb hSS (by have := hB.size; omega)
    replace hB := hB.go hAb
    replace hI := (hAb.block _ (lt_of_get hI)).trans hI
    replace hr8 := hr8.go hAb
    replace hth := hth.go hAb
    replace ha13 := ha13.go hAb
    replace hrow := hrow.go hAb
    refine dt 10 3 (.slice aA 1 cA) (fun v hv _ => by kernel_rfl) hSS ?_
    refine Za6 (by kernel_rfl) ?_
    refine Zau ?_
    exact Za7 (E := fun x => [(3, x.2), (9, .pointer (some ⟨gI, 0, none⟩)), (2, .slice none 0 0), (0, .pointer (some ⟨g, 0, none⟩))]) (R := fun x v => Bl w v ∧ ((x.1 = 0 ∧ x.2 = .slice none 0 0 ∧ v.heap[gI]? = some (.mapIter (some gU) clock #[] clock)) ∨ (x.1 = 1 ∧ (∃ a c, x.2 = .slice a 1 c) ∧ v.heap[gI]? = some (.mapIter (some gU) clock #[b] clock)))) (μ := fun x => 1 - x.1) (x := (0, .slice none 0 0)) (1, .slice aA 1 cA) (by exact ⟨fun _ => by kernel_rfl, ⟨fun _ => by kernel_rfl, ⟨fun _ => by kernel_rfl, ⟨fun _ => by kernel_rfl, trivial⟩⟩⟩⟩) ⟨hB, .inr ⟨rfl, ⟨_, _, rfl⟩, hI⟩⟩ (by show 1 - 1 < 1 - 0; omega)
  · skip
    show CW _ _ _ _ _ _ _ [(3, .slice a1 1 c1), (9, .pointer (some ⟨gI, 0, none⟩)), (2, .slice none 0 0), (0, .pointer (some ⟨g, 0, none⟩))] _
    refine Zac ?_
    refine Zaa ?_
    refine rv 10 (.tuple #[.bool false]) (fun _ => Zsk _ rfl (by kernel_rfl) hI humv hbc) ?_
    refine rp 11 (.bool false) ?_
    refine Zad ?_
    refine Zab ?_
    refine Zac ?_
    refine Zaf (fun _ => by kernel_rfl) ?_
    refine Zb1 ?_
    refine Zat ?_
    refine Zat ?_
    refine Za1 ?_
    refine Zab ?_
    refine Zac ?_
    refine Zaa ?_
    refine rp 24 (.slice a1 1 c1) ?_
    refine Zak 25 23 #[.slice a1 1 c1, .func (.func 24) #[] #[]] (fun _ => by kernel_rfl) (fun _ => by kernel_rfl) (R := RVl v (.tuple #[])) (Zxc) ?_
    rintro _ w19 ⟨rfl, hb20⟩
    replace hB := hB.go hb20
    refine Zad ?_
    refine Zab ?_
    refine Zac ?_
    refine Zaa ?_
    refine rp 26 (.slice a1 1 c1) ?_
    refine rp 2 (.slice a1 1 c1) ?_
    refine Zad ?_
    refine Zab ?_
    refine Zap ?_
    refine Zae (.slice a1 1 c1) (fun _ => by kernel_rfl) ?_
    exact ⟨_, rfl, ⟨_, _, rfl⟩, hB⟩
end Go.Proofs.YtchgejomcgoaeaaGreat
namespace Go.Proofs.YtchgejomcgoaeaaGreat
open Go.RowKit
open Di (dref)
open Pt
variable {g gU gK n c : Nat} {w : World} {us : List (List Int)} {a : Option Addr} {b : List Int}
theorem Zqs {w1 w2 : World} {g : Nat} {x : Int} (hx : 0 ≤ x ∧ x < 256) (hn : New w1 w2 g #[.int .u8 x] 5) {K : Nat → Prop} (hK : ∀ b, w1.heap.size ≤ b → K b) : ∃ w3, (∀ (ρ : Operand → Value) (o : Oper) (y : Operand), o.op = .convert 29 29 y → ρ y = .slice (some ⟨g, 0, none⟩) 1 1 → (execOp ρ o).run Tryz.prog w2 = .ok (.value (.slice (some ⟨g, 0, none⟩) 1 1)) w3) ∧ Below w1.heap.size w1 w3 ∧ Sk K w3 (some ⟨g, 0, none⟩) 1 1 [x] := by
  obtain ⟨rfl, rfl⟩ := hn
  refine ⟨w1.alloc (.cells #[.int .u8 x] 5 (1, 2)), ?_, (Below.refl _ _).alloc (Nat.le_refl _) _, ?_⟩
  · intro ρ o y ho hy
    have := Lib.run_convert_bytes_const (P := Tryz.prog) w1 29 5 #[.int .u8 x] 1 1 Tryz.underlying29 Tryz.underlying5
    unfold execOp
    simp only [ho, hy, Sem.run_bind, this, Result.andThen_ok, Sem.run_pure]
    rfl
  · refine ⟨⟨.inr ⟨w1.heap.size, 0, rfl, rfl, by omega, by omega, by unfold maxLen; omega, fun j hj => ?_⟩, (fun e => by cases e), rfl, fun y hy => by rw [List.mem_singleton.1 hy]; exact hx⟩, fun y hy _ => ?_⟩
    · have : j = 0 := by simpa using hj
      subst this
      rw [cell_of_row _ _ _ _ _ _ (heap_alloc_new w1 _)]; rfl
    · cases hy
      exact hK _ (Nat.le_refl _)
def LB : List Int := [196, 130, 32, 97, 1]
theorem al_ne : ¬ dref LB = dref [128] := fun h => absurd (congrArg (fun l : List Int => l.getD 0 0) h) (by decide +kernel)
theorem Zyv : topP (dref LB) = st (dref LB) := by unfold topP; rw [if_neg al_ne]
theorem al_nd : ND LB = some ⟨1, [6, 1], [1], r0, []⟩ := by kernel_rfl
theorem al_th : TH ⟨1, [6, 1], [1], r0, []⟩ = leaf [6, 1] [1] := by unfold TH thG; rfl
theorem al_kn : knP [LB] [] = [(dref LB, leaf [6, 1] [1])] := by
  rw [Zmc]
  simp only [findK, al_nd, al_th]
  rfl
theorem Ztm : topP (dref [128]) = no := by unfold topP; rw [if_pos rfl]
theorem Zyw : putQ [] no [97] [1] = (leaf [6, 1] [1], 0) := by kernel_rfl
theorem Zyx (d : List Int) : getP [(d, leaf [6, 1] [1])] (st d) [97] = ([1], 0) := by
  have hn : Ni.nib [97] = [6, 1] := by kernel_rfl
  simp [getP, hn, wayP, walkP, lookP, findK, fitP, nextP, valS, endS, isBr]
theorem Zyu (d : List Int) : getU [(d, leaf [6, 1] [1])] (st d) [97] [] = [d] := by
  simp [getU, wkU, lkU, lookP, findK, fitP, nextP, isBr, useP, findI]
theorem Zwo : rtP (leaf [6, 1] [1]) = dref LB := by
  rw [Zot rfl, show encN (ndT (leaf [6, 1] [1])) = LB from by kernel_rfl]
theorem Bl.t2 {v v' : World} (h : Bl w v) (ht : T2 g gU v v') (h1 : w.heap.size ≤ g) (h2 : w.heap.size ≤ gU) : Bl w v' :=
  Below.trans h ⟨ht.os, ht.tape, ht.output, ht.size, fun k hk => ht.block k (by have := h.size; omega) (by omega) (by omega)⟩
theorem PAt.t2 {g' gU' : Nat} {t : Pt} {kn : Kn} {v : World} (h : PAt w g gK gU t kn us) (ht : T2 g' gU' w v) (h1 : g ≠ g' ∧ gK ≠ g' ∧ gU ≠ g') (h2 : g ≠ gU' ∧ gK ≠ gU' ∧ gU ≠ gU') : PAt v g gK gU t kn us :=
  h.keep ht.n (ht.block _ h.lt h1.1 h2.1) (ht.block _ h.km.lt h1.2.1 h2.2.1) (h.um.keep (ht.block _ h.um.lt h1.2.2 h2.2.2))
theorem Zo3 (h : Sk An w a n c b) (hn : n ≤ 140737488351232) : Calls Tryz.prog 16 #[.slice a n c] w fun e w' => ∃ v, e = .returned v ∧ RVl w (.agg (B8 (dref b))) v w' := (Zlv a n c b w h.ag hn).mono fun e w' h => ⟨_, h.1, rfl, h.2⟩
theorem Zoz (w : World) : Calls Tryz.prog 17 #[] w fun e w' => ∃ v, e = .returned v ∧ RVl w (.agg (B8 (dref [128]))) v w' := (Zhg w).mono fun e w' h => ⟨_, h.1, rfl, h.2⟩
theorem Zxu (h : Rw g w #[.slice a n c] 29) (hs : Sk An w a n c b) (hn : n ≤ 140737488351232) : NsA w (some ⟨g, 0, none⟩) 1 1 [b] := ⟨rfl, fun j x hj => by
  match j, hj with
  | 0, hj =>
    cases hj
    exact ⟨g, 0, a, n, c, rfl, by rw [cell_of_row _ _ _ _ _ _ h]; rfl, hs, hn⟩
  | j + 1, hj => simp at hj⟩
theorem Zxv (w : World) : NsA w none 0 0 [] := ⟨rfl, fun j x hj => by simp at hj⟩
theorem new_p (hN : NsA w a n c [LB]) : Calls Tryz.prog 6 #[.agg (B8 (dref LB)), .slice a n c] w fun e w' => ∃ v', e = .returned v' ∧ RNw w (st (dref LB)) [(dref LB, leaf [6, 1] [1])] [] v' w' := by
  have := Zkw (Di.dref_len LB) (Zi3 LB) hN (by have := hN.len; simp at this; omega)
  rw [Zyv, al_kn] at this
  exact this
theorem new_q : Calls Tryz.prog 6 #[.agg (B8 (dref [128])), .slice none 0 0] w fun e w' => ∃ v', e = .returned v' ∧ RNw w no [] [] v' w' := by
  have := Zkw (Di.dref_len [128]) (Zi3 [128]) (Zxv w) (by omega)
  rw [Ztm] at this
  exact this
theorem put_q {b : Option Addr} {m d : Nat} (hP : PAt w g gK gU no [] []) (hk : Sk An w a n c [97]) (hy : Sk An w b m d [1]) : Calls Tryz.prog 18 #[.pointer (some ⟨g, 0, none⟩), .slice a n c, .slice b m d] w fun e w' => ∃ v', e = .returned v' ∧ RPut w g gK gU [] (leaf [6, 1] [1], 0) v' w' := by
  have := Zlz hP hk hy
  rw [Zyw] at this
  exact this
def RGq (w : World) (g gK gU : Nat) : Value → World → Prop := fun u w' => PAt w' g gK gU (st (dref LB)) [(dref LB, leaf [6, 1] [1])] [dref LB] ∧ (∃ a n c, u = .tuple #[.slice a n c, .bool true, .int .i64 0] ∧ Sk An w' a n c [1]) ∧ T2 gU gU w w'
theorem get_p (hP : PAt w g gK gU (st (dref LB)) [(dref LB, leaf [6, 1] [1])] []) (hk : Sk An w a n c [97]) : Calls Tryz.prog 19 #[.pointer (some ⟨g, 0, none⟩), .slice a n c] w fun e w' => ∃ v', e = .returned v' ∧ RGq w g gK gU v' w' := by
  have := Zqk hP hk
  unfold RGet at this
  rw [Zyx, Zyu] at this
  refine this.mono fun e w' h => ?_
  obtain ⟨v', h1, h2, ⟨a, n, c, h3, h4, _⟩, h5⟩ := h
  exact ⟨v', h1, h2, ⟨a, n, c, h3, h4⟩, T2.of h5⟩
theorem Zxh (hP : PAt w g gK gU (leaf [6, 1] [1]) [] us) : Calls Tryz.prog 11 #[.pointer (some ⟨g, 0, none⟩)] w fun e w' => ∃ v', e = .returned v' ∧ RVl w (.agg (B8 (dref LB))) v' w' := by
  have := Zeq hP
  rw [Zwo] at this
  exact this
set_option maxHeartbeats 1000000 in
theorem Zq9 : Calls Tryz.prog 7 #[] w fun e w' => ∃ v', e = .returned v' ∧ RVl w (.bool true) v' w' := by
  have hB : Bl w w := Bl.refl w
  refine Zaj Tryz.func7 rfl 60 rfl ?_
  show CW _ _ _ _ _ _ _ [] _
  refine Zac ?_
  refine Zaa ?_
  refine rp 0 (.bool false) ?_
  refine Zad ?_
  refine Zab ?_
  refine Zac ?_
  refine Zaa ?_
  refine Zcg 7 #[.int .u8 196, .int .u8 130, .int .u8 32, .int .u8 97, .int .u8 1] 5 5 (fun _ => by kernel_rfl) (fun _ => by kernel_rfl) ?_
  intro w1 g2 hn3
  replace hB := hB.go hn3.below
  have hs4 : Sk An w1 (some ⟨g2, 0, none⟩) 5 5 LB := Ag.sk (Ni.row_ag (show Ni.Row g2 w1 [196, 130, 32, 97, 1] from hn3.row) rfl (fun x hx => by simp [LB] at hx; omega) (by omega))
  refine rp 1 (.slice (some ⟨g2, 0, none⟩) 5 5) ?_
  refine Zad ?_
  refine Zab ?_
  refine Zac ?_
  refine Zaa ?_
  refine rp 8 (.slice (some ⟨g2, 0, none⟩) 5 5) ?_
  refine Zak 9 16 #[.slice (some ⟨g2, 0, none⟩) 5 5] (fun _ => by kernel_rfl) (fun _ => by kernel_rfl) (R := RVl w1 (.agg (B8 (dref LB)))) (Zo3 hs4 (by omega)) ?_
  rintro _ w5 ⟨rfl, hb6⟩
  replace hB := hB.go hb6
  replace hs4 := hs4.go hb6
  refine rp 10 (.slice (some ⟨g2, 0, none⟩) 5 5) ?_
  refine Zcg 11 #[.slice (some ⟨g2, 0, none⟩) 5 5] 29 1 (fun _ => by kernel_rfl) (fun _ => by kernel_rfl) ?_
  intro w7 g8 hn9
  replace hB := hB.go hn9.below
  replace hs4 := hs4.go hn9.below
  have hNs := Zxu hn9.row hs4 (by omega)
  refine Zak 12 6 #[.agg (B8 (dref LB)), .slice (some ⟨g8, 0, none⟩) 1 1] (fun _ => by kernel_rfl) (fun _ => by kernel_rfl) (R := RNw w7 (st (dref LB)) [(dref LB, leaf [6, 1] [1])] []) (new_p hNs) ?_
  rintro _ w10 ⟨⟨g1p, gK1p, gU1p, rfl, hP1, hf1a, hf1b, hf1c⟩, hb11⟩
  have hz1 : w.heap.size ≤ g1p ∧ w.heap.size ≤ gK1p ∧ w.heap.size ≤ gU1p := by have := hB.size; omega
  replace hB := hB.go hb11
  replace hs4 := hs4.go hb11
  replace hNs := hNs.go hb11
  refine rp 2 (.pointer (some ⟨g1p, 0, none⟩)) ?_
  refine Zad ?_
  refine Zab ?_
  refine Zac ?_
  refine Zaa ?_
  refine Zak 13 17 #[] (fun _ => by kernel_rfl) (fun _ => by kernel_rfl) (R := RVl w10 (.agg (B8 (dref [128])))) (Zoz w10) ?_
  rintro _ w12 ⟨rfl, hb13⟩
  replace hB := hB.go hb13
  replace hs4 := hs4.go hb13
  replace hNs := hNs.go hb13
  replace hP1 := hP1.go hb13
  refine Zak 14 6 #[.agg (B8 (dref [128])), .slice none 0 0] (fun _ => by kernel_rfl) (fun _ => by kernel_rfl) (R := RNw w12 no [] []) (new_q) ?_
  rintro _ w14 ⟨⟨g2p, gK2p, gU2p, rfl, hP2, hf2a, hf2b, hf2c⟩, hb15⟩
  have hz2 : w.heap.size ≤ g2p ∧ w.heap.size ≤ gK2p ∧ w.heap.size ≤ gU2p := by have := hB.size; omega
  have hlt : g1p < g2p ∧ g1p < gK2p ∧ g1p < gU2p ∧ gK1p < g2p ∧ gK1p < gK2p ∧ gK1p < gU2p ∧ gU1p < g2p ∧ gU1p < gK2p ∧ gU1p < gU2p := by have := hP1.lt; have := hP1.km.lt; have := hP1.um.lt; omega
  replace hB := hB.go hb15
  replace hs4 := hs4.go hb15
  replace hNs := hNs.go hb15
  replace hP1 := hP1.go hb15
  refine rp 3 (.pointer (some ⟨g2p, 0, none⟩)) ?_
  refine Zad ?_
  refine Zab ?_
  refine Zac ?_
  refine Zac ?_
  refine Zaa ?_
  refine rp 15 (.pointer (some ⟨g1p, 0, none⟩)) ?_
  refine rp 16 (.bool false) ?_
  refine rp 17 (.bool false) ?_
  refine rp 18 (.pointer (some ⟨g2p, 0, none⟩)) ?_
  refine rp 19 (.bool false) ?_
  refine rp 20 (.bool false) ?_
  refine rp 21 (.bool false) ?_
  refine rp 22 (.pointer (some ⟨g2p, 0, none⟩)) ?_
  refine Zcg 23 #[.int .u8 97] 5 1 (fun _ => by kernel_rfl) (fun _ => by kernel_rfl) ?_
  intro w16 g17 hn18
  obtain ⟨w19, hr20, hb21, hs22⟩ := Zqs (x := 97) (by omega) hn18 (K := An) (fun _ _ => trivial)
  refine rw_v 24 (.slice (some ⟨g17, 0, none⟩) 1 1) (fun _ => by kernel_rfl) (fun _ => hr20 _ _ _ rfl (by kernel_rfl)) ?_
  replace hB := hB.go hb21
  replace hs4 := hs4.go hb21
  replace hNs := hNs.go hb21
  replace hP1 := hP1.go hb21
  replace hP2 := hP2.go hb21
  refine Zcg 25 #[.int .u8 1] 5 1 (fun _ => by kernel_rfl) (fun _ => by kernel_rfl) ?_
  intro w23 g24 hn25
  replace hB := hB.go hn25.below
  replace hs4 := hs4.go hn25.below
  replace hNs := hNs.go hn25.below
  replace hP1 := hP1.go hn25.below
  replace hP2 := hP2.go hn25.below
  replace hs22 := hs22.go hn25.below
  have hs26 : Sk An w23 (some ⟨g24, 0, none⟩) 1 1 [1] := Ag.sk (Ni.row_ag (show Ni.Row g24 w23 [1] from hn25.row) rfl (fun x hx => by simp at hx; omega) (by omega))
  refine Zak 26 18 #[.pointer (some ⟨g2p, 0, none⟩), .slice (some ⟨g17, 0, none⟩) 1 1, .slice (some ⟨g24, 0, none⟩) 1 1] (fun _ => by kernel_rfl) (fun _ => by kernel_rfl) (R := RPut w23 g2p gK2p gU2p [] (leaf [6, 1] [1], 0)) (put_q hP2 hs22 hs26) ?_
  rintro _ w27 ⟨⟨us28, hP29⟩, rfl, hT30⟩
  replace hB := hB.t2 hT30 hz2.1 hz2.2.2
  replace hs4 := hs4.nt hT30.n
  replace hP1 := hP1.t2 hT30 (by omega) (by omega)
  replace hs22 := hs22.nt hT30.n
  replace hs26 := hs26.nt hT30.n
  replace hP2 := hP29
  refine rp 27 (.bool false) ?_
  refine rp 28 (.bool false) ?_
  refine Zad ?_
  refine Zab ?_
  refine Zaf (fun _ => by kernel_rfl) ?_
  refine Zam ?_
  refine Zab ?_
  refine Zac ?_
  refine Zaa ?_
  refine rp 30 (.pointer (some ⟨g1p, 0, none⟩)) ?_
  refine Zcg 31 #[.int .u8 97] 5 1 (fun _ => by kernel_rfl) (fun _ => by kernel_rfl) ?_
  intro w31 g32 hn33
  obtain ⟨w34, hr35, hb36, hs37⟩ := Zqs (x := 97) (by omega) hn33 (K := An) (fun _ _ => trivial)
  refine rw_v 32 (.slice (some ⟨g32, 0, none⟩) 1 1) (fun _ => by kernel_rfl) (fun _ => hr35 _ _ _ rfl (by kernel_rfl)) ?_
  replace hB := hB.go hb36
  replace hs4 := hs4.go hb36
  replace hP1 := hP1.go hb36
  replace hP2 := hP2.go hb36
  replace hs22 := hs22.go hb36
  replace hs26 := hs26.go hb36
  refine Zak 33 19 #[.pointer (some ⟨g1p, 0, none⟩), .slice (some ⟨g32, 0, none⟩) 1 1] (fun _ => by kernel_rfl) (fun _ => by kernel_rfl) (R := RGq w34 g1p gK1p gU1p) (get_p hP1 hs37) ?_
  rintro _ w38 ⟨hP39, ⟨a40, n41, c42, rfl, hx43⟩, hT44⟩
  replace hB := hB.t2 hT44 hz1.2.2 hz1.2.2
  replace hs4 := hs4.nt hT44.n
  replace hP2 := hP2.t2 hT44 (by omega) (by omega)
  replace hs22 := hs22.nt hT44.n
  replace hs26 := hs26.nt hT44.n
  replace hs37 := hs37.nt hT44.n
  replace hP1 := hP39
  refine rp 29 (.tuple #[.slice a40 n41 c42, .bool true, .int .i64 0]) ?_
  refine rp 34 (.slice a40 n41 c42) ?_
  refine rp 35 (.bool true) ?_
  refine rp 36 (.int .i64 0) ?_
  refine rp 4 (.slice a40 n41 c42) ?_
  refine rp 5 (.bool true) ?_
  refine rp 6 (.int .i64 0) ?_
  refine Zad ?_
  refine Zab ?_
  refine Zac ?_
  refine Zaa ?_
  refine rp 37 (.bool true) ?_
  refine rp 38 (.bool true) ?_
  refine rp 39 (.int .i64 0) ?_
  refine rp 40 (.bool true) ?_
  refine rp 41 (.bool true) ?_
  refine rp 42 (.bool true) ?_
  refine rp 43 (.slice a40 n41 c42) ?_
  refine Zcg 44 #[.int .u8 1] 5 1 (fun _ => by kernel_rfl) (fun _ => by kernel_rfl) ?_
  intro w45 g46 hn47
  replace hB := hB.go hn47.below
  replace hs4 := hs4.go hn47.below
  replace hP1 := hP1.go hn47.below
  replace hP2 := hP2.go hn47.below
  replace hs22 := hs22.go hn47.below
  replace hs26 := hs26.go hn47.below
  replace hs37 := hs37.go hn47.below
  replace hx43 := hx43.go hn47.below
  have hs48 : Sk An w45 (some ⟨g46, 0, none⟩) 1 1 [1] := Ag.sk (Ni.row_ag (show Ni.Row g46 w45 [1] from hn47.row) rfl (fun x hx => by simp at hx; omega) (by omega))
  refine Zak 45 20 #[.slice a40 n41 c42, .slice (some ⟨g46, 0, none⟩) 1 1] (fun _ => by kernel_rfl) (fun _ => by kernel_rfl) (R := RVl w45 (.bool true)) (Zgt hx43 hs48) ?_
  rintro _ w49 ⟨rfl, hb50⟩
  replace hB := hB.go hb50
  replace hs4 := hs4.go hb50
  replace hP1 := hP1.go hb50
  replace hP2 := hP2.go hb50
  replace hs22 := hs22.go hb50
  replace hs26 := hs26.go hb50
  replace hs37 := hs37.go hb50
  replace hx43 := hx43.go hb50
  replace hs48 := hs48.go hb50
  refine rp 46 (.bool true) ?_
  refine rp 47 (.bool true) ?_
  refine rp 48 (.pointer (some ⟨g2p, 0, none⟩)) ?_
  refine Zak 49 11 #[.pointer (some ⟨g2p, 0, none⟩)] (fun _ => by kernel_rfl) (fun _ => by kernel_rfl) (R := RVl w49 (.agg (B8 (dref LB)))) (Zxh hP2) ?_
  rintro _ w51 ⟨rfl, hb52⟩
  replace hB := hB.go hb52
  replace hs4 := hs4.go hb52
  replace hP1 := hP1.go hb52
  replace hP2 := hP2.go hb52
  replace hs22 := hs22.go hb52
  replace hs26 := hs26.go hb52
  replace hs37 := hs37.go hb52
  replace hx43 := hx43.go hb52
  replace hs48 := hs48.go hb52
  refine rp 50 (.slice (some ⟨g2, 0, none⟩) 5 5) ?_
  refine Zak 51 16 #[.slice (some ⟨g2, 0, none⟩) 5 5] (fun _ => by kernel_rfl) (fun _ => by kernel_rfl) (R := RVl w51 (.agg (B8 (dref LB)))) (Zo3 hs4 (by omega)) ?_
  rintro _ w53 ⟨rfl, hb54⟩
  replace hB := hB.go hb54
  replace hs4 := hs4.go hb54
  replace hP1 := hP1.go hb54
  replace hP2 := hP2.go hb54
  replace hs22 := hs22.go hb54
  replace hs26 := hs26.go hb54
  replace hs37 := hs37.go hb54
  replace hx43 := hx43.go hb54
  replace hs48 := hs48.go hb54
  refine rv 52 (.bool true) (fun _ => Zal (Zpl (xs := dref LB) (ys := dref LB) rfl (by kernel_rfl) (by kernel_rfl) (Di.dref_len _) (Di.dref_len _)) (congrArg Value.bool (beq_self_eq_true _))) ?_
  refine rp 53 (.bool true) ?_
  refine rp 54 (.bool true) ?_
  refine rp 55 (.pointer (some ⟨g1p, 0, none⟩)) ?_
  refine Zak 56 9 #[.pointer (some ⟨g1p, 0, none⟩)] (fun _ => by kernel_rfl) (fun _ => by kernel_rfl) (R := fun u w' => (∃ a c, u = .slice a 1 c) ∧ Bl w53 w') (Zw3 hP1 (Di.dref_len _) (t := leaf [6, 1] [1]) (by simp [findK]) rfl) ?_
  rintro _ w55 ⟨⟨aU, cU, rfl⟩, hb56⟩
  replace hB := hB.go hb56
  replace hs4 := hs4.go hb56
  replace hP1 := hP1.go hb56
  replace hP2 := hP2.go hb56
  replace hs22 := hs22.go hb56
  replace hs26 := hs26.go hb56
  replace hs37 := hs37.go hb56
  replace hx43 := hx43.go hb56
  replace hs48 := hs48.go hb56
  refine rp 57 (.int .i64 1) ?_
  refine rp 58 (.bool true) ?_
  refine rp 59 (.bool true) ?_
  refine rp 0 (.bool true) ?_
  refine Zad ?_
  refine Zab ?_
  refine Zap ?_
  refine Zae (.bool true) (fun _ => by kernel_rfl) ?_
  exact ⟨_, rfl, rfl, hB⟩
end Go.Proofs.YtchgejomcgoaeaaGreat

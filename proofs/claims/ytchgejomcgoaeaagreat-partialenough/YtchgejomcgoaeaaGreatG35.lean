/- The law's own: what a call tells. -/
import Derived.Test.YtchgejomcgoaeaaGreatG34
import Derived.Test.YtchgejomcgoaeaaGreatG14
import Derived.Shelf.SlSortCmp.Whole1
import Derived.Ground.SlsfProg
import Derived.Test.YtchgejomcgoaeaaGreatProg
import Derived.Test.YtchgejomcgoaeaaGreatG23
import Derived.Lib.Bytealg
import Derived.Laws.Externs
import Derived.Lib.Bytes
import Derived.Lib.SliceRun
import Derived.Laws.OwnMore
set_option linter.unusedVariables false
set_option maxRecDepth 100000
namespace Go.Proofs.YtchgejomcgoaeaaGreat
open Go.RowKit
open Di (dref)
open Pt
variable {w : World} {a a' : Option Addr} {n c n' c' g gU gx : Nat} {p d : List Int}
def tdc (v : Value) (b : Bool) (e : Int) (d : List Int) : Array Value := (v :: .bool b :: .int .i64 e :: d.map (Value.int .u8)).toArray
section
variable {v v' : Value} {b b' : Bool} {e e' : Int} {d d' : List Int}
theorem Zbu (h : d.length = 32) : (tdc v b e d).size = 35 := by simp [tdc, h]
theorem Zc6 (h : d.length = 32) : (Tryz.prog.info? 34).map (·.size) = some (tdc v b e d).size := by rw [Zbu h]; kernel_rfl
theorem Zja (h : d.length = 32) (h' : d'.length = 32) : (tdc v b e d).size = (tdc v' b' e' d').size := by rw [Zbu h, Zbu h']
theorem Zgd (hv : v.oneCell' = true) : (tdc v b e d).all (·.oneCell') = true := by
 unfold tdc
 refine all_oneCell_toArray fun x hx => ?_
 rcases List.mem_cons.1 hx with rfl | hx
 ·exact hv
 rcases List.mem_cons.1 hx with rfl | hx
 ·rfl
 rcases List.mem_cons.1 hx with rfl | hx
 ·rfl
 obtain ⟨z, _, rfl⟩ := List.mem_map.1 hx
 rfl
theorem tdc0 : (tdc v b e d)[0]? = some v := by simp [tdc]
theorem tdc1 : (tdc v b e d)[1]? = some (.bool b) := by simp [tdc]
theorem tdc2 : (tdc v b e d)[2]? = some (.int .i64 e) := by simp [tdc]
theorem tdc3 (j : Nat) : (tdc v b e d)[3 + j]? = (d.map (Value.int .u8))[j]? := by unfold tdc; rw [List.getElem?_toArray, Nat.add_comm]; rfl
theorem Zru : (tdc v b e d).setIfInBounds 0 v' = tdc v' b e d := by simp [tdc]
theorem Zlm : (tdc v b e d).setIfInBounds 1 (.bool b') = tdc v b' e d := by simp [tdc]
theorem Zib : (tdc v b e d).setIfInBounds 2 (.int .i64 e') = tdc v b e' d := by simp [tdc]
theorem Zci (hv : ∀ x, v ≠ .int .u8 x) : ∀ (j : Nat) (x : Int), (tdc v b e d)[j]? = some (Value.int .u8 x) → (tdc v' b' e' d)[j]? = some (Value.int .u8 x)
  | 0, x, h => by rw [tdc0] at h; exact absurd (Option.some.inj h) (hv x)
  | 1, x, h => by rw [tdc1] at h; cases h
  | 2, x, h => by rw [tdc2] at h; cases h
  | j + 3, x, h => by rw [Nat.add_comm, tdc3] at h ⊢; exact h
theorem Zic {g : Nat} {w : World} (h : Rw g w (tdc v b e d) 34) : w.rangeAt g 3 (d.map (Value.int .u8)) := fun m x hx => by
  rw [cell_of_row _ _ _ _ _ _ h, tdc3]; exact hx
theorem Zu0 {g : Nat} {w : World} (h : Rw g w (tdc v b e d) 34) (hd : d.length = 32) (hd' : d'.length = 32) : Rw g (w.setCells g 3 (d'.map (Value.int .u8))) (tdc v b e d') 34 := by
  obtain ⟨cur, h1, h2⟩ := Zon g 34 (d'.map (Value.int .u8)) 3 w _ h
  have hth : w.there g 3 (d'.map (Value.int .u8)).length := fun m hm => by
    refine ⟨?_, frozen_of_row _ _ _ _ _ h⟩
    rw [cell_of_row _ _ _ _ _ _ h, Array.getElem?_eq_getElem (by rw [Zbu hd]; rw [List.length_map] at hm; omega)]
    rfl
  have hs := World.rangeAt_setCells_same w g 3 _ hth
  have ha : (w.setCells g 3 (d'.map (Value.int .u8))).rangeAt g 0 [v, .bool b, .int .i64 e] := World.rangeAt_setCells_apart (fun m x hx => by
    rw [cell_of_row _ _ _ _ _ _ h]
    match m, hx with
    | 0, hx => rw [Nat.zero_add, tdc0]; exact hx
    | 1, hx => rw [Nat.zero_add, tdc1]; exact hx
    | 2, hx => rw [Nat.zero_add, tdc2]; exact hx) g 3 _ (.inr (.inl (Nat.le_refl _)))
  have e : cur = tdc v b e d' := by
    apply Array.ext_getElem?
    intro m
    have hc : ∀ o, (w.setCells g 3 (d'.map (Value.int .u8))).cell? ⟨g, o, none⟩ = cur[o]? := fun o => cell_of_row _ _ _ _ _ _ h1
    by_cases hm : m < 35
    · match m with
      | 0 => rw [← hc, tdc0]; exact ha 0 _ rfl
      | 1 => rw [← hc, tdc1]; exact ha 1 _ rfl
      | 2 => rw [← hc, tdc2]; exact ha 2 _ rfl
      | j + 3 =>
        rw [← hc, Nat.add_comm, tdc3]
        have hj : j < (d'.map (Value.int .u8)).length := by rw [List.length_map]; omega
        rw [List.getElem?_eq_getElem hj]
        exact hs j _ (List.getElem?_eq_getElem hj)
    · rw [Array.getElem?_eq_none (by rw [h2, Zbu hd]; omega), Array.getElem?_eq_none (by rw [Zbu hd']; omega)]
  rw [Rw, h1, e]
theorem Zpg {ρ : Operand → Value} {w : World} {o : Oper} {g : Nat} (x z : Operand) (h : Rw g w (tdc v b e d) 34) (hd : d.length = 32) (hd' : d'.length = 32) (ho : o.op = .store 23 x z) (hx : ρ x = .pointer (some ⟨g, 3, none⟩)) (hz : ρ z = .agg (B8 d')) :
    (execOp ρ o).run Tryz.prog w = .ok .skip (w.setCells g 3 (d'.map (Value.int .u8))) := by
  have := run_storeAt_mid (P := Tryz.prog) w g 3 23 (B8 d') (fun m hm => by
    refine ⟨?_, frozen_of_row _ _ _ _ _ h⟩
    rw [cell_of_row _ _ _ _ _ _ h, Array.getElem?_eq_getElem (by rw [Zbu hd]; rw [B8_size] at hm; omega)]
    rfl) (Zbm hd') (B8_one _)
  unfold execOp
  simp only [ho, hx, hz, Sem.run_bind, this, Result.andThen_ok, Sem.run_pure]
  rfl
end
set_option maxHeartbeats 1000000 in
theorem Zp6 {K K' : Nat → Prop} {q : List Int} (h1 : Sk K w a n c p) (h2 : Sk K' w a' n' c' q) :
    Calls Tryz.prog 20 #[.slice a n c, .slice a' n' c'] w fun e w' => ∃ u, e = .returned u ∧ u = .bool (decide (p = q)) ∧ Bl w w' := by
  have hB := Bl.refl w
  refine Zaj Tryz.func20 rfl 10 rfl ?_
  show CW _ _ _ _ _ _ _ [(0, .slice a n c), (1, .slice a' n' c')] _
  refine Zac ?_
  refine Zaa ?_
  refine rp 4 (.bool false) ?_
  refine Zad ?_
  refine Zab ?_
  refine Zac ?_
  refine Zaa ?_
  refine rp 5 (.slice a n c) ?_
  refine rv 6 (.string (strOfNums p)) (fun _ => h1.run_str _ _ _ rfl (by kernel_rfl)) ?_
  refine rp 7 (.slice a' n' c') ?_
  refine rv 8 (.string (strOfNums q)) (fun _ => h2.run_str _ _ _ rfl (by kernel_rfl)) ?_
  refine rv 9 (.bool (decide (p = q))) (fun _ => Zt5 9 _ _ _ _ _ rfl (by kernel_rfl) (by kernel_rfl) (Zoi h1.ag.b h2.ag.b)) ?_
  refine rp 4 (.bool (decide (p = q))) ?_
  refine Zad ?_
  refine Zab ?_
  refine Zap ?_
  exact Zae (.bool (decide (p = q))) (fun _ => by kernel_rfl) ⟨_, rfl, rfl, hB⟩
theorem Zgt (h1 : Sk An w a n c p) (h2 : Sk An w a' n' c' p) : Calls Tryz.prog 20 #[.slice a n c, .slice a' n' c'] w fun e w' => ∃ u, e = .returned u ∧ RVl w (.bool true) u w' := (Zp6 h1 h2).mono fun e w' h => by
  obtain ⟨u, h1, h2, h3⟩ := h
  exact ⟨u, h1, by rw [h2, decide_eq_true rfl], h3⟩
structure Td where
  v : List Int
  b : Bool
  e : Int
  d : List Int
def callP (kn : Kn) (t : Pt) (k : Int) (key y : List Int) : Pt × Td := if k = 0 then (t, ⟨(getP kn t key).1, decide (0 < (getP kn t key).1.length), (getP kn t key).2, z32⟩) else if k = 1 then ((putQ kn t key y).1, ⟨[], false, (putQ kn t key y).2, z32⟩) else if k = 2 then ((delQ kn t key).1, ⟨[], (delQ kn t key).2.1, (delQ kn t key).2.2, z32⟩) else (t, ⟨[], false, 0, rtP t⟩)
def RTo (r : Td) : Value → World → Prop := fun u w' => ∃ a n c, u = .agg (tdc (.slice a n c) r.b r.e r.d) ∧ Sk An w' a n c r.v
def callU (kn : Kn) (t : Pt) (k : Int) (key y : List Int) (us : List (List Int)) : List (List Int) := if k = 0 then getU kn t key us else if k = 1 then putU kn t key y us else if k = 2 then delU kn t key us else us
def RCa (w : World) (g gK gU : Nat) (kn : Kn) (us : List (List Int)) (r : Pt × Td) : Value → World → Prop := fun u w' => PAt w' g gK gU r.1 kn us ∧ RTo r.2 u w' ∧ T2 g gU w w'
theorem T2.tou {v v' : World} (h : T2 g gU w v) (ht : Touch gx v v') (hz : w.heap.size ≤ gx) : T2 g gU w v' :=
  ⟨ht.os.trans h.os, ht.tape.trans h.tape, ht.output.trans h.output, Nat.le_trans h.size ht.size, fun k hk n1 n2 => (ht.block k (Nat.lt_of_lt_of_le hk h.size) (by omega)).trans (h.block k hk n1 n2), h.n.tou ht hz⟩
theorem Rw.t2 {v : World} {cells : Array Value} {T : TypeId} (h : Rw gx w cells T) (ht : T2 g gU w v) (h1 : gx ≠ g) (h2 : gx ≠ gU) : Rw gx v cells T := (ht.block gx (lt_of_get h) h1 h2).trans h
set_option maxHeartbeats 1000000 in
theorem Zg0 {gK : Nat} {t0 : Pt} {kn : Kn} {us : List (List Int)} (hP : PAt w g gK gU t0 kn us) {k : Int} {b : Option Addr} {m d : Nat} {key y : List Int} (hkey : Sk An w a n c key) (hy : Sk An w b m d y)  : Calls Tryz.prog 8 #[.pointer (some ⟨g, 0, none⟩), .agg #[.int .i64 k, .slice a n c, .slice b m d]] w fun e w' => ∃ v', e = .returned v' ∧ RCa w g gK gU kn (callU kn t0 k key y us) (callP kn t0 k key y) v' w' := by
 have hgP := hP.lt
 have hgK := hP.km.lt
 have hgU := hP.um.lt
 have hP0 := hP
 have hrl : (rtP t0).length = 32 := by obtain ⟨vt, _, htt⟩ := hP.row; exact Zhr htt
 have hB : Bl w w := Bl.refl w
 refine Zaj Tryz.func8 rfl 45 rfl ?_
 show CW _ _ _ _ _ _ _ [(0, .pointer (some ⟨g, 0, none⟩)), (1, .agg #[.int .i64 k, .slice a n c, .slice b m d])] _
 refine Zac ?_
 refine Zaa ?_
 refine Zar 3 (#[.int .i64 k, .slice a n c, .slice b m d]) 31 (fun _ => by kernel_rfl) (fun _ => by kernel_rfl) ?_
 intro w1 g2 hn3
 have hzg2 : w.heap.size ≤ g2 := by have := hB.size; have := hn3.hg; omega
 replace hB := hB.go hn3.below
 replace hP := hP.go hn3.below
 replace hkey := hkey.go hn3.below
 replace hy := hy.go hn3.below
 have hr4 : Rw g2 w1 (#[.int .i64 k, .slice a n c, .slice b m d]) 31 := hn3.row
 refine Zar 4 (tdc (.slice none 0 0) false 0 z32) 34 (fun _ => by kernel_rfl) (fun _ => by kernel_rfl) ?_
 intro w5 g6 hn7
 have hlg2g6 : g2 < g6 := by have := hr4.lt; have := hn7.hg; omega
 have hzg6 : w.heap.size ≤ g6 := by have := hB.size; have := hn7.hg; omega
 replace hB := hB.go hn7.below
 replace hP := hP.go hn7.below
 replace hkey := hkey.go hn7.below
 replace hy := hy.go hn7.below
 replace hr4 := hr4.go hn7.below
 have hr8 : Rw g6 w5 (tdc (.slice none 0 0) false 0 z32) 34 := hn7.row
 refine Zad ?_
 refine Zab ?_
 refine Zac ?_
 refine Zaa ?_
 refine Zar 5 (tdc (.slice none 0 0) false 0 z32) 34 (fun _ => by kernel_rfl) (fun _ => by kernel_rfl) ?_
 intro w9 g10 hn11
 have hlg2g10 : g2 < g10 := by have := hr4.lt; have := hn11.hg; omega
 have hlg6g10 : g6 < g10 := by have := hr8.lt; have := hn11.hg; omega
 have hzg10 : w.heap.size ≤ g10 := by have := hB.size; have := hn11.hg; omega
 replace hB := hB.go hn11.below
 replace hP := hP.go hn11.below
 replace hkey := hkey.go hn11.below
 replace hy := hy.go hn11.below
 replace hr4 := hr4.go hn11.below
 replace hr8 := hr8.go hn11.below
 have hr12 : Rw g10 w9 (tdc (.slice none 0 0) false 0 z32) 34 := hn11.row
 refine Zad ?_
 refine Zab ?_
 refine Zac ?_
 refine Zac ?_
 refine Zaa ?_
 refine rp 6 (.pointer (some ⟨g2, 0, none⟩)) ?_
 refine rv 7 (.int .i64 k) (fun _ => Zag 3 _ ⟨g2, 0, none⟩ _ _ rfl (by kernel_rfl) (by rw [cell_of_row _ _ _ _ _ _ hr4]; rfl) Tryz.underlying3 rfl) ?_
 refine Zad ?_
 refine Zab ?_
 refine Zan ?_
 refine Zac ?_
 refine Zaa ?_
 refine rp 12 (.bool ((k : Int) == (0 : Int))) ?_
 refine rp 11 (.bool ((k : Int) == (0 : Int))) ?_
 refine Zad ?_
 refine Zab ?_
 cases hq13 : ((k : Int) == (0 : Int)) with
 | true =>
  refine Zai (fun _ => by kernel_rfl) ?_
  refine Zaa ?_
  refine rp 14 (.pointer (some ⟨g, 0, none⟩)) ?_
  refine rp 15 (.pointer (some ⟨g2, 1, none⟩)) ?_
  refine rv 16 (.slice a n c) (fun _ => Zag 29 _ ⟨g2, 1, none⟩ _ _ rfl (by kernel_rfl) (by rw [cell_of_row _ _ _ _ _ _ hr4]; rfl) Tryz.underlying29 rfl) ?_
  refine Zak 17 19 #[.pointer (some ⟨g, 0, none⟩), .slice a n c] (fun _ => by kernel_rfl) (fun _ => by kernel_rfl) (R := RGet w9 g gK gU t0 kn us key) (Zqk hP hkey) ?_
  rintro _ w14 ⟨hP15, ⟨a16, n17, c18, rfl, hx19, hn20⟩, hT21⟩
  have hT : T2 g gU w w14 := (T2.of (TU.of hB)).trans (T2.of (g := g) hT21)
  replace hr4 := hr4.t2 (T2.of (g := g) hT21) (by omega) (by omega)
  replace hr8 := hr8.t2 (T2.of (g := g) hT21) (by omega) (by omega)
  replace hr12 := hr12.t2 (T2.of (g := g) hT21) (by omega) (by omega)
  replace hkey := hkey.nt (T2.of (g := g) hT21).n
  replace hy := hy.nt (T2.of (g := g) hT21).n
  replace hP := hP15
  refine rp 13 (.tuple #[.slice a16 n17 c18, .bool (decide (0 < (getP kn t0 key).1.length)), .int .i64 (getP kn t0 key).2]) ?_
  refine rp 18 (.slice a16 n17 c18) ?_
  refine rp 19 (.bool (decide (0 < (getP kn t0 key).1.length))) ?_
  refine rp 20 (.int .i64 (getP kn t0 key).2) ?_
  refine rp 21 (.pointer (some ⟨g10, 0, none⟩)) ?_
  refine Zb0 g10 (0) (.slice a16 n17 c18) (fun _ => by kernel_rfl) (fun _ => Zbr 29 _ _ g10 _ _ 34 _ hr12 rfl (by kernel_rfl) (by kernel_rfl) (by rw [Zbu (show z32.length = 32 from rfl)]; omega) rfl rfl (by kernel_rfl)) ?_
  intro w22 hs23
  have ho24 := hr12
  replace hr12 := hr12.set (cells' := (tdc (.slice a16 n17 c18) false 0 z32)) hs23 Zru
  have hnt25 : Nt _ _ := Nt.cells ho24 hr12 hs23.touch (Zci (fun _ e9 => by cases e9))
  replace hP := hP.keep hnt25 (hs23.touch.block _ hP.lt (by omega)) (hs23.touch.block _ hP.km.lt (by omega)) (hP.um.keep (hs23.touch.block _ hP.um.lt (by omega)))
  replace hkey := hkey.nt hnt25
  replace hy := hy.nt hnt25
  replace hr4 := hr4.past hs23.touch (by omega)
  replace hr8 := hr8.past hs23.touch (by omega)
  replace hT := hT.tou hs23.touch hzg10
  replace hx19 := hx19.nt hnt25
  refine rp 22 (.pointer (some ⟨g10, 1, none⟩)) ?_
  refine Zb0 g10 (1) (.bool (decide (0 < (getP kn t0 key).1.length))) (fun _ => by kernel_rfl) (fun _ => Zbr 4 _ _ g10 _ _ 34 _ hr12 rfl (by kernel_rfl) (by kernel_rfl) (by rw [Zbu (show z32.length = 32 from rfl)]; omega) rfl rfl (by kernel_rfl)) ?_
  intro w26 hs27
  have ho28 := hr12
  replace hr12 := hr12.set (cells' := (tdc (.slice a16 n17 c18) (decide (0 < (getP kn t0 key).1.length)) 0 z32)) hs27 Zlm
  have hnt29 : Nt _ _ := Nt.cells ho28 hr12 hs27.touch (Zci (fun _ e9 => by cases e9))
  replace hP := hP.keep hnt29 (hs27.touch.block _ hP.lt (by omega)) (hs27.touch.block _ hP.km.lt (by omega)) (hP.um.keep (hs27.touch.block _ hP.um.lt (by omega)))
  replace hkey := hkey.nt hnt29
  replace hy := hy.nt hnt29
  replace hr4 := hr4.past hs27.touch (by omega)
  replace hr8 := hr8.past hs27.touch (by omega)
  replace hT := hT.tou hs27.touch hzg10
  replace hx19 := hx19.nt hnt29
  refine rp 23 (.pointer (some ⟨g10, 2, none⟩)) ?_
  refine Zb0 g10 (2) (.int .i64 (getP kn t0 key).2) (fun _ => by kernel_rfl) (fun _ => Zbr 32 _ _ g10 _ _ 34 _ hr12 rfl (by kernel_rfl) (by kernel_rfl) (by rw [Zbu (show z32.length = 32 from rfl)]; omega) rfl rfl (by kernel_rfl)) ?_
  intro w30 hs31
  have ho32 := hr12
  replace hr12 := hr12.set (cells' := (tdc (.slice a16 n17 c18) (decide (0 < (getP kn t0 key).1.length)) ((getP kn t0 key).2) z32)) hs31 Zib
  have hnt33 : Nt _ _ := Nt.cells ho32 hr12 hs31.touch (Zci (fun _ e9 => by cases e9))
  replace hP := hP.keep hnt33 (hs31.touch.block _ hP.lt (by omega)) (hs31.touch.block _ hP.km.lt (by omega)) (hP.um.keep (hs31.touch.block _ hP.um.lt (by omega)))
  replace hkey := hkey.nt hnt33
  replace hy := hy.nt hnt33
  replace hr4 := hr4.past hs31.touch (by omega)
  replace hr8 := hr8.past hs31.touch (by omega)
  replace hT := hT.tou hs31.touch hzg10
  replace hx19 := hx19.nt hnt33
  refine Zad ?_
  refine Zau ?_
  refine Zab ?_
  refine Zac ?_
  refine Zaa ?_
  refine rv 44 (.agg (tdc (.slice a16 n17 c18) (decide (0 < (getP kn t0 key).1.length)) ((getP kn t0 key).2) z32)) (fun _ => Za2 34 _ _ _ _ _ _ rfl (by kernel_rfl) hr12 Tryz.underlying34 rfl (Zc6 (show z32.length = 32 from rfl))) ?_
  refine Zav g6 (tdc (.slice a16 n17 c18) (decide (0 < (getP kn t0 key).1.length)) ((getP kn t0 key).2) z32) (fun _ => by kernel_rfl) (fun _ => Zao 34 _ _ _ _ _ 34 rfl (by kernel_rfl) (by kernel_rfl) hr8 (Zc6 (show z32.length = 32 from rfl)) (Zja (show z32.length = 32 from rfl) (show z32.length = 32 from rfl)) (Zgd rfl)) ?_
  intro w34 hp35
  have ho36 := hr8
  replace hr8 : Rw g6 w34 (tdc (.slice a16 n17 c18) (decide (0 < (getP kn t0 key).1.length)) ((getP kn t0 key).2) z32) 34 := hp35.row hr8
  have hnt37 : Nt _ _ := Nt.cells ho36 hr8 hp35.touch (Zci (fun _ e9 => by cases e9))
  replace hP := hP.keep hnt37 (hp35.touch.block _ hP.lt (by omega)) (hp35.touch.block _ hP.km.lt (by omega)) (hP.um.keep (hp35.touch.block _ hP.um.lt (by omega)))
  replace hkey := hkey.nt hnt37
  replace hy := hy.nt hnt37
  replace hr4 := hr4.past hp35.touch (by omega)
  replace hr12 := hr12.past hp35.touch (by omega)
  replace hT := hT.tou hp35.touch hzg6
  replace hx19 := hx19.nt hnt37
  refine Zad ?_
  refine Zab ?_
  refine Zap ?_
  refine Zae (.agg (tdc (.slice a16 n17 c18) (decide (0 < (getP kn t0 key).1.length)) ((getP kn t0 key).2) z32)) (fun _ => Zch rfl _ g6 _ (by kernel_rfl) hr8 Tryz.underlying34 rfl (Zc6 (show z32.length = 32 from rfl))) ?_
  unfold callP callU
  have hz0 : k = 0 := by simpa using hq13
  rw [if_pos hz0, if_pos hz0]
  exact ⟨_, rfl, hP, ⟨_, _, _, rfl, hx19⟩, hT⟩
 | false =>
  refine Zaf (fun _ => by kernel_rfl) ?_
  refine Zac ?_
  refine Zaa ?_
  refine rp 25 (.bool ((k : Int) == (1 : Int))) ?_
  refine rp 24 (.bool ((k : Int) == (1 : Int))) ?_
  refine Zad ?_
  refine Zab ?_
  cases hq38 : ((k : Int) == (1 : Int)) with
  | true =>
   refine Zai (fun _ => by kernel_rfl) ?_
   refine Zaa ?_
   refine rp 26 (.pointer (some ⟨g, 0, none⟩)) ?_
   refine rp 27 (.pointer (some ⟨g2, 1, none⟩)) ?_
   refine rv 28 (.slice a n c) (fun _ => Zag 29 _ ⟨g2, 1, none⟩ _ _ rfl (by kernel_rfl) (by rw [cell_of_row _ _ _ _ _ _ hr4]; rfl) Tryz.underlying29 rfl) ?_
   refine rp 29 (.pointer (some ⟨g2, 2, none⟩)) ?_
   refine rv 30 (.slice b m d) (fun _ => Zag 29 _ ⟨g2, 2, none⟩ _ _ rfl (by kernel_rfl) (by rw [cell_of_row _ _ _ _ _ _ hr4]; rfl) Tryz.underlying29 rfl) ?_
   refine Zak 31 18 #[.pointer (some ⟨g, 0, none⟩), .slice a n c, .slice b m d] (fun _ => by kernel_rfl) (fun _ => by kernel_rfl) (R := RPut w9 g gK gU kn (putU kn t0 key y us) (putQ kn t0 key y)) (Zlz hP hkey hy) ?_
   rintro _ w39 ⟨hP40, rfl, hT42⟩
   have hT : T2 g gU w w39 := (T2.of (TU.of hB)).trans hT42
   replace hr4 := hr4.t2 hT42 (by omega) (by omega)
   replace hr8 := hr8.t2 hT42 (by omega) (by omega)
   replace hr12 := hr12.t2 hT42 (by omega) (by omega)
   replace hkey := hkey.nt hT42.n
   replace hy := hy.nt hT42.n
   replace hP := hP40
   refine rp 32 (.pointer (some ⟨g10, 2, none⟩)) ?_
   refine Zb0 g10 (2) (.int .i64 (putQ kn t0 key y).2) (fun _ => by kernel_rfl) (fun _ => Zbr 32 _ _ g10 _ _ 34 _ hr12 rfl (by kernel_rfl) (by kernel_rfl) (by rw [Zbu (show z32.length = 32 from rfl)]; omega) rfl rfl (by kernel_rfl)) ?_
   intro w43 hs44
   have ho45 := hr12
   replace hr12 := hr12.set (cells' := (tdc (.slice none 0 0) false ((putQ kn t0 key y).2) z32)) hs44 Zib
   have hnt46 : Nt _ _ := Nt.cells ho45 hr12 hs44.touch (Zci (fun _ e9 => by cases e9))
   replace hP := hP.keep hnt46 (hs44.touch.block _ hP.lt (by omega)) (hs44.touch.block _ hP.km.lt (by omega)) (hP.um.keep (hs44.touch.block _ hP.um.lt (by omega)))
   replace hkey := hkey.nt hnt46
   replace hy := hy.nt hnt46
   replace hr4 := hr4.past hs44.touch (by omega)
   replace hr8 := hr8.past hs44.touch (by omega)
   replace hT := hT.tou hs44.touch hzg10
   refine Zad ?_
   refine Zau ?_
   refine Zab ?_
   refine Zac ?_
   refine Zaa ?_
   refine rv 44 (.agg (tdc (.slice none 0 0) false ((putQ kn t0 key y).2) z32)) (fun _ => Za2 34 _ _ _ _ _ _ rfl (by kernel_rfl) hr12 Tryz.underlying34 rfl (Zc6 (show z32.length = 32 from rfl))) ?_
   refine Zav g6 (tdc (.slice none 0 0) false ((putQ kn t0 key y).2) z32) (fun _ => by kernel_rfl) (fun _ => Zao 34 _ _ _ _ _ 34 rfl (by kernel_rfl) (by kernel_rfl) hr8 (Zc6 (show z32.length = 32 from rfl)) (Zja (show z32.length = 32 from rfl) (show z32.length = 32 from rfl)) (Zgd rfl)) ?_
   intro w47 hp48
   have ho49 := hr8
   replace hr8 : Rw g6 w47 (tdc (.slice none 0 0) false ((putQ kn t0 key y).2) z32) 34 := hp48.row hr8
   have hnt50 : Nt _ _ := Nt.cells ho49 hr8 hp48.touch (Zci (fun _ e9 => by cases e9))
   replace hP := hP.keep hnt50 (hp48.touch.block _ hP.lt (by omega)) (hp48.touch.block _ hP.km.lt (by omega)) (hP.um.keep (hp48.touch.block _ hP.um.lt (by omega)))
   replace hkey := hkey.nt hnt50
   replace hy := hy.nt hnt50
   replace hr4 := hr4.past hp48.touch (by omega)
   replace hr12 := hr12.past hp48.touch (by omega)
   replace hT := hT.tou hp48.touch hzg6
   refine Zad ?_
   refine Zab ?_
   refine Zap ?_
   refine Zae (.agg (tdc (.slice none 0 0) false ((putQ kn t0 key y).2) z32)) (fun _ => Zch rfl _ g6 _ (by kernel_rfl) hr8 Tryz.underlying34 rfl (Zc6 (show z32.length = 32 from rfl))) ?_
   unfold callP callU
   have hz0 : ¬ k = 0 := by simpa using hq13
   rw [if_neg hz0, if_neg hz0]
   have hz1 : k = 1 := by simpa using hq38
   rw [if_pos hz1, if_pos hz1]
   exact ⟨_, rfl, hP, ⟨_, _, _, rfl, Sk.nil _ _⟩, hT⟩
  | false =>
   refine Zaf (fun _ => by kernel_rfl) ?_
   refine Zac ?_
   refine Zaa ?_
   refine rp 34 (.bool ((k : Int) == (2 : Int))) ?_
   refine rp 33 (.bool ((k : Int) == (2 : Int))) ?_
   refine Zad ?_
   refine Zab ?_
   cases hq51 : ((k : Int) == (2 : Int)) with
   | true =>
    refine Zai (fun _ => by kernel_rfl) ?_
    refine Zaa ?_
    refine rp 36 (.pointer (some ⟨g, 0, none⟩)) ?_
    refine rp 37 (.pointer (some ⟨g2, 1, none⟩)) ?_
    refine rv 38 (.slice a n c) (fun _ => Zag 29 _ ⟨g2, 1, none⟩ _ _ rfl (by kernel_rfl) (by rw [cell_of_row _ _ _ _ _ _ hr4]; rfl) Tryz.underlying29 rfl) ?_
    refine Zak 39 21 #[.pointer (some ⟨g, 0, none⟩), .slice a n c] (fun _ => by kernel_rfl) (fun _ => by kernel_rfl) (R := RDel w9 g gK gU kn (delU kn t0 key us) (delQ kn t0 key)) (Zse hP hkey) ?_
    rintro _ w52 ⟨hP53, rfl, hT55⟩
    have hT : T2 g gU w w52 := (T2.of (TU.of hB)).trans hT55
    replace hr4 := hr4.t2 hT55 (by omega) (by omega)
    replace hr8 := hr8.t2 hT55 (by omega) (by omega)
    replace hr12 := hr12.t2 hT55 (by omega) (by omega)
    replace hkey := hkey.nt hT55.n
    replace hy := hy.nt hT55.n
    replace hP := hP53
    refine rp 35 (.tuple #[.bool (delQ kn t0 key).2.1, .int .i64 (delQ kn t0 key).2.2]) ?_
    refine rp 40 (.bool (delQ kn t0 key).2.1) ?_
    refine rp 41 (.int .i64 (delQ kn t0 key).2.2) ?_
    refine rp 42 (.pointer (some ⟨g10, 1, none⟩)) ?_
    refine Zb0 g10 (1) (.bool (delQ kn t0 key).2.1) (fun _ => by kernel_rfl) (fun _ => Zbr 4 _ _ g10 _ _ 34 _ hr12 rfl (by kernel_rfl) (by kernel_rfl) (by rw [Zbu (show z32.length = 32 from rfl)]; omega) rfl rfl (by kernel_rfl)) ?_
    intro w56 hs57
    have ho58 := hr12
    replace hr12 := hr12.set (cells' := (tdc (.slice none 0 0) ((delQ kn t0 key).2.1) 0 z32)) hs57 Zlm
    have hnt59 : Nt _ _ := Nt.cells ho58 hr12 hs57.touch (Zci (fun _ e9 => by cases e9))
    replace hP := hP.keep hnt59 (hs57.touch.block _ hP.lt (by omega)) (hs57.touch.block _ hP.km.lt (by omega)) (hP.um.keep (hs57.touch.block _ hP.um.lt (by omega)))
    replace hkey := hkey.nt hnt59
    replace hy := hy.nt hnt59
    replace hr4 := hr4.past hs57.touch (by omega)
    replace hr8 := hr8.past hs57.touch (by omega)
    replace hT := hT.tou hs57.touch hzg10
    refine rp 43 (.pointer (some ⟨g10, 2, none⟩)) ?_
    refine Zb0 g10 (2) (.int .i64 (delQ kn t0 key).2.2) (fun _ => by kernel_rfl) (fun _ => Zbr 32 _ _ g10 _ _ 34 _ hr12 rfl (by kernel_rfl) (by kernel_rfl) (by rw [Zbu (show z32.length = 32 from rfl)]; omega) rfl rfl (by kernel_rfl)) ?_
    intro w60 hs61
    have ho62 := hr12
    replace hr12 := hr12.set (cells' := (tdc (.slice none 0 0) ((delQ kn t0 key).2.1) ((delQ kn t0 key).2.2) z32)) hs61 Zib
    have hnt63 : Nt _ _ := Nt.cells ho62 hr12 hs61.touch (Zci (fun _ e9 => by cases e9))
    replace hP := hP.keep hnt63 (hs61.touch.block _ hP.lt (by omega)) (hs61.touch.block _ hP.km.lt (by omega)) (hP.um.keep (hs61.touch.block _ hP.um.lt (by omega)))
    replace hkey := hkey.nt hnt63
    replace hy := hy.nt hnt63
    replace hr4 := hr4.past hs61.touch (by omega)
    replace hr8 := hr8.past hs61.touch (by omega)
    replace hT := hT.tou hs61.touch hzg10
    refine Zad ?_
    refine Zau ?_
    refine Zab ?_
    refine Zac ?_
    refine Zaa ?_
    refine rv 44 (.agg (tdc (.slice none 0 0) ((delQ kn t0 key).2.1) ((delQ kn t0 key).2.2) z32)) (fun _ => Za2 34 _ _ _ _ _ _ rfl (by kernel_rfl) hr12 Tryz.underlying34 rfl (Zc6 (show z32.length = 32 from rfl))) ?_
    refine Zav g6 (tdc (.slice none 0 0) ((delQ kn t0 key).2.1) ((delQ kn t0 key).2.2) z32) (fun _ => by kernel_rfl) (fun _ => Zao 34 _ _ _ _ _ 34 rfl (by kernel_rfl) (by kernel_rfl) hr8 (Zc6 (show z32.length = 32 from rfl)) (Zja (show z32.length = 32 from rfl) (show z32.length = 32 from rfl)) (Zgd rfl)) ?_
    intro w64 hp65
    have ho66 := hr8
    replace hr8 : Rw g6 w64 (tdc (.slice none 0 0) ((delQ kn t0 key).2.1) ((delQ kn t0 key).2.2) z32) 34 := hp65.row hr8
    have hnt67 : Nt _ _ := Nt.cells ho66 hr8 hp65.touch (Zci (fun _ e9 => by cases e9))
    replace hP := hP.keep hnt67 (hp65.touch.block _ hP.lt (by omega)) (hp65.touch.block _ hP.km.lt (by omega)) (hP.um.keep (hp65.touch.block _ hP.um.lt (by omega)))
    replace hkey := hkey.nt hnt67
    replace hy := hy.nt hnt67
    replace hr4 := hr4.past hp65.touch (by omega)
    replace hr12 := hr12.past hp65.touch (by omega)
    replace hT := hT.tou hp65.touch hzg6
    refine Zad ?_
    refine Zab ?_
    refine Zap ?_
    refine Zae (.agg (tdc (.slice none 0 0) ((delQ kn t0 key).2.1) ((delQ kn t0 key).2.2) z32)) (fun _ => Zch rfl _ g6 _ (by kernel_rfl) hr8 Tryz.underlying34 rfl (Zc6 (show z32.length = 32 from rfl))) ?_
    unfold callP callU
    have hz0 : ¬ k = 0 := by simpa using hq13
    rw [if_neg hz0, if_neg hz0]
    have hz1 : ¬ k = 1 := by simpa using hq38
    rw [if_neg hz1, if_neg hz1]
    have hz2 : k = 2 := by simpa using hq51
    rw [if_pos hz2, if_pos hz2]
    exact ⟨_, rfl, hP, ⟨_, _, _, rfl, Sk.nil _ _⟩, hT⟩
   | false =>
    refine Zaf (fun _ => by kernel_rfl) ?_
    refine Zaa ?_
    refine rp 8 (.pointer (some ⟨g, 0, none⟩)) ?_
    refine Zak 9 11 #[.pointer (some ⟨g, 0, none⟩)] (fun _ => by kernel_rfl) (fun _ => by kernel_rfl) (R := RVl w9 (.agg (B8 (rtP t0)))) (Zeq hP) ?_
    rintro _ w68 ⟨rfl, hb69⟩
    replace hB := hB.go hb69
    replace hP := hP.go hb69
    replace hkey := hkey.go hb69
    replace hy := hy.go hb69
    replace hr4 := hr4.go hb69
    replace hr8 := hr8.go hb69
    replace hr12 := hr12.go hb69
    refine rp 10 (.pointer (some ⟨g10, 3, none⟩)) ?_
    refine rw_s (fun _ => by kernel_rfl) (fun _ => Zpg _ _ hr12 (show z32.length = 32 from rfl) hrl rfl (by kernel_rfl) (by kernel_rfl)) ?_
    have hst := St.of w68 g10 3 ((rtP t0).map (Value.int .u8))
    have hrm := Zu0 hr12 (show z32.length = 32 from rfl) hrl
    obtain ⟨w70, hw9⟩ : ∃ w9, (w68).setCells g10 3 ((rtP t0).map (Value.int .u8)) = w9 := ⟨_, rfl⟩
    rw [hw9] at hst hrm ⊢
    have ht9 : Touch g10 w68 w70 := ⟨hst.os, hst.tape, hst.output, by rw [hst.size]; exact Nat.le_refl _, fun k9 _ h9 => hst.other k9 h9⟩
    have ho71 := hr12
    replace hr12 := hrm
    replace hB := hB.tou ht9 hzg10
    replace hr4 := hr4.past ht9 (by omega)
    replace hr8 := hr8.past ht9 (by omega)
    refine Zad ?_
    refine Zau ?_
    refine Zab ?_
    refine Zac ?_
    refine Zaa ?_
    refine rv 44 (.agg (tdc (.slice none 0 0) false 0 (rtP t0))) (fun _ => Za2 34 _ _ _ _ _ _ rfl (by kernel_rfl) hr12 Tryz.underlying34 rfl (Zc6 hrl)) ?_
    refine Zav g6 (tdc (.slice none 0 0) false 0 (rtP t0)) (fun _ => by kernel_rfl) (fun _ => Zao 34 _ _ _ _ _ 34 rfl (by kernel_rfl) (by kernel_rfl) hr8 (Zc6 hrl) (Zja (show z32.length = 32 from rfl) hrl) (Zgd rfl)) ?_
    intro w73 hp74
    have ho75 := hr8
    replace hr8 : Rw g6 w73 (tdc (.slice none 0 0) false 0 (rtP t0)) 34 := hp74.row hr8
    replace hB := hB.tou hp74.touch hzg6
    replace hr4 := hr4.past hp74.touch (by omega)
    replace hr12 := hr12.past hp74.touch (by omega)
    refine Zad ?_
    refine Zab ?_
    refine Zap ?_
    refine Zae (.agg (tdc (.slice none 0 0) false 0 (rtP t0))) (fun _ => Zch rfl _ g6 _ (by kernel_rfl) hr8 Tryz.underlying34 rfl (Zc6 hrl)) ?_
    unfold callP callU
    have hz0 : ¬ k = 0 := by simpa using hq13
    rw [if_neg hz0, if_neg hz0]
    have hz1 : ¬ k = 1 := by simpa using hq38
    rw [if_neg hz1, if_neg hz1]
    have hz2 : ¬ k = 2 := by simpa using hq51
    rw [if_neg hz2, if_neg hz2]
    exact ⟨_, rfl, hP0.go hB, ⟨_, _, _, rfl, Sk.nil _ _⟩, T2.of (TU.of hB)⟩
set_option maxHeartbeats 1000000 in
theorem Zk1 {v : List Int} {e : Int} (h1 : Sk An w a n c v) (h2 : Sk An w a' n' c' v) (hd : d.length = 32) : Calls Tryz.prog 10 #[.agg (tdc (.slice a n c) true e d), .agg (tdc (.slice a' n' c') true e d)] w fun e w' => ∃ v', e = .returned v' ∧ RVl w (.bool true) v' w' := by
 have hB : Bl w w := Bl.refl w
 refine Zaj Tryz.func10 rfl 31 rfl ?_
 show CW _ _ _ _ _ _ _ [(0, .agg (tdc (.slice a n c) true e d)), (1, .agg (tdc (.slice a' n' c') true e d))] _
 refine Zac ?_
 refine Zaa ?_
 refine Zar 2 (tdc (.slice a n c) true e d) 34 (fun _ => by kernel_rfl) (fun _ => by kernel_rfl) ?_
 intro w1 g2 hn3
 have hzg2 : w.heap.size ≤ g2 := by have := hB.size; have := hn3.hg; omega
 replace hB := hB.go hn3.below
 replace h1 := h1.go hn3.below
 replace h2 := h2.go hn3.below
 have hr4 : Rw g2 w1 (tdc (.slice a n c) true e d) 34 := hn3.row
 refine Zar 3 (tdc (.slice a' n' c') true e d) 34 (fun _ => by kernel_rfl) (fun _ => by kernel_rfl) ?_
 intro w5 g6 hn7
 have hlg2g6 : g2 < g6 := by have := hr4.lt; have := hn7.hg; omega
 have hzg6 : w.heap.size ≤ g6 := by have := hB.size; have := hn7.hg; omega
 replace hB := hB.go hn7.below
 replace h1 := h1.go hn7.below
 replace h2 := h2.go hn7.below
 replace hr4 := hr4.go hn7.below
 have hr8 : Rw g6 w5 (tdc (.slice a' n' c') true e d) 34 := hn7.row
 refine rp 4 (.bool false) ?_
 refine Zad ?_
 refine Zab ?_
 refine Zac ?_
 refine Zaa ?_
 refine rp 5 (.pointer (some ⟨g2, 0, none⟩)) ?_
 refine rv 6 (.slice a n c) (fun _ => Zag 29 _ ⟨g2, 0, none⟩ _ _ rfl (by kernel_rfl) (by rw [cell_of_row _ _ _ _ _ _ hr4]; exact tdc0) Tryz.underlying29 rfl) ?_
 refine rp 7 (.pointer (some ⟨g6, 0, none⟩)) ?_
 refine rv 8 (.slice a' n' c') (fun _ => Zag 29 _ ⟨g6, 0, none⟩ _ _ rfl (by kernel_rfl) (by rw [cell_of_row _ _ _ _ _ _ hr8]; exact tdc0) Tryz.underlying29 rfl) ?_
 refine Zak 9 20 #[.slice a n c, .slice a' n' c'] (fun _ => by kernel_rfl) (fun _ => by kernel_rfl) (R := RVl w5 (.bool true)) (Zgt h1 h2) ?_
 rintro _ w9 ⟨rfl, hb10⟩
 replace hB := hB.go hb10
 replace h1 := h1.go hb10
 replace h2 := h2.go hb10
 replace hr4 := hr4.go hb10
 replace hr8 := hr8.go hb10
 refine rp 10 (.bool true) ?_
 refine rp 11 (.pointer (some ⟨g2, 1, none⟩)) ?_
 refine rv 12 (.bool true) (fun _ => Zag 4 _ ⟨g2, 1, none⟩ _ _ rfl (by kernel_rfl) (by rw [cell_of_row _ _ _ _ _ _ hr4]; exact tdc1) Tryz.underlying4 rfl) ?_
 refine rp 13 (.pointer (some ⟨g6, 1, none⟩)) ?_
 refine rv 14 (.bool true) (fun _ => Zag 4 _ ⟨g6, 1, none⟩ _ _ rfl (by kernel_rfl) (by rw [cell_of_row _ _ _ _ _ _ hr8]; exact tdc1) Tryz.underlying4 rfl) ?_
 refine rp 15 (.bool true) ?_
 refine rp 16 (.bool true) ?_
 refine rp 17 (.bool true) ?_
 refine rp 18 (.pointer (some ⟨g2, 2, none⟩)) ?_
 refine rv 19 (.int .i64 e) (fun _ => Zag 32 _ ⟨g2, 2, none⟩ _ _ rfl (by kernel_rfl) (by rw [cell_of_row _ _ _ _ _ _ hr4]; exact tdc2) Tryz.underlying32 rfl) ?_
 refine rp 20 (.pointer (some ⟨g6, 2, none⟩)) ?_
 refine rv 21 (.int .i64 e) (fun _ => Zag 32 _ ⟨g6, 2, none⟩ _ _ rfl (by kernel_rfl) (by rw [cell_of_row _ _ _ _ _ _ hr8]; exact tdc2) Tryz.underlying32 rfl) ?_
 refine rv 22 (.bool true) (fun _ => Zal (v := .bool ((e : Int) == (e : Int))) (by kernel_rfl) (congrArg Value.bool (beq_self_eq_true _))) ?_
 refine rp 23 (.bool true) ?_
 refine rp 24 (.bool true) ?_
 refine rp 25 (.pointer (some ⟨g2, 3, none⟩)) ?_
 refine rv 26 (.agg (B8 d)) (fun _ => Zb2 23 _ _ _ _ _ rfl (by kernel_rfl) (Zic hr4) Tryz.underlying23 rfl (by rw [List.length_map, hd]; kernel_rfl)) ?_
 refine rp 27 (.pointer (some ⟨g6, 3, none⟩)) ?_
 refine rv 28 (.agg (B8 d)) (fun _ => Zb2 23 _ _ _ _ _ rfl (by kernel_rfl) (Zic hr8) Tryz.underlying23 rfl (by rw [List.length_map, hd]; kernel_rfl)) ?_
 refine rv 29 (.bool true) (fun _ => Zal (Zpl (xs := d) (ys := d) rfl (by kernel_rfl) (by kernel_rfl) hd hd) (congrArg Value.bool (beq_self_eq_true _))) ?_
 refine rp 30 (.bool true) ?_
 refine rp 4 (.bool true) ?_
 refine Zad ?_
 refine Zab ?_
 refine Zap ?_
 refine Zae (.bool true) (fun _ => by kernel_rfl) ?_
 exact ⟨_, rfl, rfl, hB⟩
set_option maxHeartbeats 1000000 in
theorem Zjx {v : List Int} {e : Int} (h1 : Sk An w a n c v) (h2 : Sk An w a' n' c' v) (hd : d.length = 32) : Calls Tryz.prog 10 #[.agg (tdc (.slice a n c) false e d), .agg (tdc (.slice a' n' c') false e d)] w fun e w' => ∃ v', e = .returned v' ∧ RVl w (.bool true) v' w' := by
 have hB : Bl w w := Bl.refl w
 refine Zaj Tryz.func10 rfl 31 rfl ?_
 show CW _ _ _ _ _ _ _ [(0, .agg (tdc (.slice a n c) false e d)), (1, .agg (tdc (.slice a' n' c') false e d))] _
 refine Zac ?_
 refine Zaa ?_
 refine Zar 2 (tdc (.slice a n c) false e d) 34 (fun _ => by kernel_rfl) (fun _ => by kernel_rfl) ?_
 intro w1 g2 hn3
 have hzg2 : w.heap.size ≤ g2 := by have := hB.size; have := hn3.hg; omega
 replace hB := hB.go hn3.below
 replace h1 := h1.go hn3.below
 replace h2 := h2.go hn3.below
 have hr4 : Rw g2 w1 (tdc (.slice a n c) false e d) 34 := hn3.row
 refine Zar 3 (tdc (.slice a' n' c') false e d) 34 (fun _ => by kernel_rfl) (fun _ => by kernel_rfl) ?_
 intro w5 g6 hn7
 have hlg2g6 : g2 < g6 := by have := hr4.lt; have := hn7.hg; omega
 have hzg6 : w.heap.size ≤ g6 := by have := hB.size; have := hn7.hg; omega
 replace hB := hB.go hn7.below
 replace h1 := h1.go hn7.below
 replace h2 := h2.go hn7.below
 replace hr4 := hr4.go hn7.below
 have hr8 : Rw g6 w5 (tdc (.slice a' n' c') false e d) 34 := hn7.row
 refine rp 4 (.bool false) ?_
 refine Zad ?_
 refine Zab ?_
 refine Zac ?_
 refine Zaa ?_
 refine rp 5 (.pointer (some ⟨g2, 0, none⟩)) ?_
 refine rv 6 (.slice a n c) (fun _ => Zag 29 _ ⟨g2, 0, none⟩ _ _ rfl (by kernel_rfl) (by rw [cell_of_row _ _ _ _ _ _ hr4]; exact tdc0) Tryz.underlying29 rfl) ?_
 refine rp 7 (.pointer (some ⟨g6, 0, none⟩)) ?_
 refine rv 8 (.slice a' n' c') (fun _ => Zag 29 _ ⟨g6, 0, none⟩ _ _ rfl (by kernel_rfl) (by rw [cell_of_row _ _ _ _ _ _ hr8]; exact tdc0) Tryz.underlying29 rfl) ?_
 refine Zak 9 20 #[.slice a n c, .slice a' n' c'] (fun _ => by kernel_rfl) (fun _ => by kernel_rfl) (R := RVl w5 (.bool true)) (Zgt h1 h2) ?_
 rintro _ w9 ⟨rfl, hb10⟩
 replace hB := hB.go hb10
 replace h1 := h1.go hb10
 replace h2 := h2.go hb10
 replace hr4 := hr4.go hb10
 replace hr8 := hr8.go hb10
 refine rp 10 (.bool true) ?_
 refine rp 11 (.pointer (some ⟨g2, 1, none⟩)) ?_
 refine rv 12 (.bool false) (fun _ => Zag 4 _ ⟨g2, 1, none⟩ _ _ rfl (by kernel_rfl) (by rw [cell_of_row _ _ _ _ _ _ hr4]; exact tdc1) Tryz.underlying4 rfl) ?_
 refine rp 13 (.pointer (some ⟨g6, 1, none⟩)) ?_
 refine rv 14 (.bool false) (fun _ => Zag 4 _ ⟨g6, 1, none⟩ _ _ rfl (by kernel_rfl) (by rw [cell_of_row _ _ _ _ _ _ hr8]; exact tdc1) Tryz.underlying4 rfl) ?_
 refine rp 15 (.bool true) ?_
 refine rp 16 (.bool true) ?_
 refine rp 17 (.bool true) ?_
 refine rp 18 (.pointer (some ⟨g2, 2, none⟩)) ?_
 refine rv 19 (.int .i64 e) (fun _ => Zag 32 _ ⟨g2, 2, none⟩ _ _ rfl (by kernel_rfl) (by rw [cell_of_row _ _ _ _ _ _ hr4]; exact tdc2) Tryz.underlying32 rfl) ?_
 refine rp 20 (.pointer (some ⟨g6, 2, none⟩)) ?_
 refine rv 21 (.int .i64 e) (fun _ => Zag 32 _ ⟨g6, 2, none⟩ _ _ rfl (by kernel_rfl) (by rw [cell_of_row _ _ _ _ _ _ hr8]; exact tdc2) Tryz.underlying32 rfl) ?_
 refine rv 22 (.bool true) (fun _ => Zal (v := .bool ((e : Int) == (e : Int))) (by kernel_rfl) (congrArg Value.bool (beq_self_eq_true _))) ?_
 refine rp 23 (.bool true) ?_
 refine rp 24 (.bool true) ?_
 refine rp 25 (.pointer (some ⟨g2, 3, none⟩)) ?_
 refine rv 26 (.agg (B8 d)) (fun _ => Zb2 23 _ _ _ _ _ rfl (by kernel_rfl) (Zic hr4) Tryz.underlying23 rfl (by rw [List.length_map, hd]; kernel_rfl)) ?_
 refine rp 27 (.pointer (some ⟨g6, 3, none⟩)) ?_
 refine rv 28 (.agg (B8 d)) (fun _ => Zb2 23 _ _ _ _ _ rfl (by kernel_rfl) (Zic hr8) Tryz.underlying23 rfl (by rw [List.length_map, hd]; kernel_rfl)) ?_
 refine rv 29 (.bool true) (fun _ => Zal (Zpl (xs := d) (ys := d) rfl (by kernel_rfl) (by kernel_rfl) hd hd) (congrArg Value.bool (beq_self_eq_true _))) ?_
 refine rp 30 (.bool true) ?_
 refine rp 4 (.bool true) ?_
 refine Zad ?_
 refine Zab ?_
 refine Zap ?_
 refine Zae (.bool true) (fun _ => by kernel_rfl) ?_
 exact ⟨_, rfl, rfl, hB⟩
theorem Znj {r : Td} {u u' : Value} (h1 : RTo r u w) (h2 : RTo r u' w) (hd : r.d.length = 32) : Calls Tryz.prog 10 #[u, u'] w fun e w' => ∃ v', e = .returned v' ∧ RVl w (.bool true) v' w' := by
 obtain ⟨v, b, e, d⟩ := r
 obtain ⟨a, n, c, rfl, h3⟩ := h1
 obtain ⟨a', n', c', rfl, h4⟩ := h2
 cases b
 ·exact Zjx h3 h4 hd
 ·exact Zk1 h3 h4 hd
end Go.Proofs.YtchgejomcgoaeaaGreat
namespace Go.Proofs.YtchgejomcgoaeaaGreat
open Go.Shelf
def sortB_ren : Go.Shelf.Ren := ⟨fun | 6 => 23 | 15 => 47 | 14 => 46 | 28 => 78 | 29 => 79 | 20 => 70 | 21 => 71 | 22 => 72 | 23 => 73 | 24 => 74 | 25 => 75 | 26 => 76 | 27 => 77 | 46 => 103 | 47 => 104 | 48 => 105 | 49 => 106 | 50 => 107 | 57 => 120 | n => n, fun | 22 => 24 | 24 => 29 | 25 => 60 | 3 => 3 | 39 => 97 | 0 => 0 | 53 => 139 | 55 => 79 | 4 => 4 | 46 => 132 | 45 => 131 | 50 => 136 | 5 => 5 | 9 => 9 | 66 => 163 | 70 => 167 | 76 => 178 | 77 => 179 | n => n, fun | n => n⟩
theorem sortB : Go.Proofs.SlLaysF.n6 Tryz.prog sortB_ren := {
  mixed := by kernel_rfl
  f6 := ⟨Tryz.f23.name, by decide, Tryz.func23.trans (congrArg some (by kernel_rfl))⟩
  f14 := ⟨Tryz.f46.name, by decide, Tryz.func46.trans (congrArg some (by kernel_rfl))⟩
  f15 := Tryz.func47.trans (congrArg some (by kernel_rfl))
  f20 := ⟨Tryz.f70.name, by decide, Tryz.func70.trans (congrArg some (by kernel_rfl))⟩
  f21 := ⟨Tryz.f71.name, by decide, Tryz.func71.trans (congrArg some (by kernel_rfl))⟩
  f22 := ⟨Tryz.f72.name, by decide, Tryz.func72.trans (congrArg some (by kernel_rfl))⟩
  f23 := ⟨Tryz.f73.name, by decide, Tryz.func73.trans (congrArg some (by kernel_rfl))⟩
  f24 := ⟨Tryz.f74.name, by decide, Tryz.func74.trans (congrArg some (by kernel_rfl))⟩
  f25 := ⟨Tryz.f75.name, by decide, Tryz.func75.trans (congrArg some (by kernel_rfl))⟩
  f26 := ⟨Tryz.f76.name, by decide, Tryz.func76.trans (congrArg some (by kernel_rfl))⟩
  f27 := ⟨Tryz.f77.name, by decide, Tryz.func77.trans (congrArg some (by kernel_rfl))⟩
  f28 := Tryz.func78.trans (congrArg some (by kernel_rfl))
  f29 := Tryz.func79.trans (congrArg some (by kernel_rfl))
  f46 := ⟨Tryz.f103.name, by decide, Tryz.func103.trans (congrArg some (by kernel_rfl))⟩
  f47 := Tryz.func104.trans (congrArg some (by kernel_rfl))
  f48 := Tryz.func105.trans (congrArg some (by kernel_rfl))
  f49 := ⟨Tryz.f106.name, by decide, Tryz.func106.trans (congrArg some (by kernel_rfl))⟩
  f50 := ⟨Tryz.f107.name, by decide, Tryz.func107.trans (congrArg some (by kernel_rfl))⟩
  f57 := ⟨Tryz.f120.name, by decide, Tryz.func120.trans (congrArg some (by kernel_rfl))⟩
  t0 := Tryz.underlying0
  a0 := Tryz.isAgg0
  z0 := Tryz.sizeOf0
  v0 := Tryz.zeroValue0
  t3 := Tryz.underlying3
  a3 := Tryz.isAgg3
  z3 := Tryz.sizeOf3
  v3 := Tryz.zeroValue3
  t4 := Tryz.underlying4
  a4 := Tryz.isAgg4
  z4 := Tryz.sizeOf4
  v4 := Tryz.zeroValue4
  t5 := Tryz.underlying5
  a5 := Tryz.isAgg5
  z5 := Tryz.sizeOf5
  v5 := Tryz.zeroValue5
  t9 := Tryz.underlying9
  a9 := Tryz.isAgg9
  z9 := Tryz.sizeOf9
  v9 := Tryz.zeroValue9
  t22 := Tryz.underlying24
  a22 := Tryz.isAgg24
  z22 := Tryz.sizeOf24
  v22 := Tryz.zeroValue24
  a24 := Tryz.isAgg29
  z24 := Tryz.sizeOf29
  t25 := Tryz.underlying60
  a25 := Tryz.isAgg60
  z25 := Tryz.sizeOf60
  v25 := Tryz.zeroValue60
  t39 := Tryz.underlying97
  a39 := Tryz.isAgg97
  z39 := Tryz.sizeOf97
  v39 := Tryz.zeroValue97
  t45 := Tryz.underlying131
  a45 := Tryz.isAgg131
  z45 := Tryz.sizeOf131
  v45 := Tryz.zeroValue131
  t46 := Tryz.underlying132
  a46 := Tryz.isAgg132
  z46 := Tryz.sizeOf132
  v46 := Tryz.zeroValue132
  t50 := Tryz.underlying136
  a50 := Tryz.isAgg136
  z50 := Tryz.sizeOf136
  v50 := Tryz.zeroValue136
  t53 := Tryz.underlying139
  a53 := Tryz.isAgg139
  z53 := Tryz.sizeOf139
  v53 := Tryz.zeroValue139
  t55 := Tryz.underlying79
  a55 := Tryz.isAgg79
  z55 := Tryz.sizeOf79
  v55 := Tryz.zeroValue79
  t66 := Tryz.underlying163
  a66 := Tryz.isAgg163
  z66 := Tryz.sizeOf163
  v66 := Tryz.zeroValue163
  t70 := Tryz.underlying167
  a70 := Tryz.isAgg167
  z70 := Tryz.sizeOf167
  v70 := Tryz.zeroValue167
  t76 := Tryz.underlying178
  a76 := Tryz.isAgg178
  z76 := Tryz.sizeOf178
  v76 := Tryz.zeroValue178
  t77 := Tryz.underlying179
  a77 := Tryz.isAgg179
  z77 := Tryz.sizeOf179
  v77 := Tryz.zeroValue179 }
end Go.Proofs.YtchgejomcgoaeaaGreat
namespace Go.Proofs.YtchgejomcgoaeaaGreat
open Go.RowKit Go.Proofs
open Go.Sort (Holds putRow putCells)
open Ni (lessP Xas)
variable {P : Program} {K K' : Nat → Prop} {w w' : World} {a a' : Option Addr} {n c n' c' g : Nat} {p q : List Int} {α : Type}
theorem Xat : ∀ a : List Int, lessP a a = false
  | [] => rfl
  | x :: r => by simp [lessP, Xat r]
theorem Xai : ∀ a b c : List Int, lessP a b = true → lessP b c = true → lessP a c = true
  | [], [], _, h, _ => by simp [lessP] at h
  | [], _ :: _, [], _, h => by simp [lessP] at h
  | [], _ :: _, _ :: _, _, _ => rfl
  | _ :: _, [], _, h, _ => by simp [lessP] at h
  | _ :: _, _ :: _, [], _, h => by simp [lessP] at h
  | x :: a, y :: b, z :: c, h, k => by
    simp only [lessP] at h k ⊢
    by_cases h1 : x = y
    · subst h1
      rw [if_pos rfl] at h
      by_cases h2 : x = z
      · subst h2
        rw [if_pos rfl] at k ⊢
        exact Xai a b c h k
      · rw [if_neg h2] at k ⊢
        exact k
    · rw [if_neg h1] at h
      by_cases h2 : y = z
      · subst h2
        rw [if_neg h1]
        exact h
      · rw [if_neg h2] at k
        have h3 := of_decide_eq_true h
        have h4 := of_decide_eq_true k
        rw [if_neg (by omega)]
        exact decide_eq_true (by omega)
theorem Xa2 (a b : List Int) (h : a ≠ b) (k : lessP a b = false) : lessP b a = true := by
 have := Xas a b
 simpa [h, k] using this
def cmpP (a b : List Int) : Int := if a = b then 0 else if lessP a b then -1 else 1
theorem Xce (a b : List Int) : decide (cmpP a b < 0) = lessP a b := by
 unfold cmpP
 by_cases h : a = b
 ·subst h; simp [Xat]
 ·rw [if_neg h]
  cases lessP a b <;> simp
theorem Xah {P : Program} {w : World} {gb : Nat} : ∀ (bs : List Int) (off : Nat) (acc : ByteArray), (∀ j, j < bs.length → w.cell? ⟨gb, off + j, none⟩ = some (.int .u8 (bs.getD j 0))) → (Extern.Bytes.loadBytes ⟨gb, off, none⟩ bs.length acc).run P w = .ok ⟨acc.data ++ (Lib.bytesOf bs).toArray⟩ w
  | [], off, acc, h => by
    obtain ⟨d⟩ := acc
    simp [Extern.Bytes.loadBytes, Lib.bytesOf]
  | x :: r, off, acc, h => by
    have h0 := h 0 (by simp)
    rw [Nat.add_zero] at h0
    have e : (Extern.Bytes.loadBytes ⟨gb, off, none⟩ (x :: r).length acc).run P w = (Extern.Bytes.loadBytes ⟨gb, off + 1, none⟩ r.length (acc.push x.toNat.toUInt8)).run P w := by
      rw [List.length_cons, Extern.Bytes.loadBytes, Sem.run_bind, run_load, h0]
      simp only [List.getD_cons_zero, Result.andThen]
      rfl
    rw [e, Xah r (off + 1) (acc.push x.toNat.toUInt8) (fun j hj => by
      have := h (j + 1) (by simp; omega)
      rw [show off + 1 + j = off + (j + 1) from by omega, this]
      simp)]
    obtain ⟨d⟩ := acc
    simp [Lib.bytesOf, ByteArray.push, Nat.toUInt8]
theorem Xam (h : Sk K w a n c p) : (Extern.Bytes.bytesOf (.slice a n c)).run P w = .ok ⟨(Lib.bytesOf p).toArray⟩ w := by
 have hl := h.len
 rcases h.ag.i with ⟨h1, h2⟩ | ⟨gb, off, h1, h2, h3, h4, h5, h7⟩
 ·subst h1; subst h2
  cases a with
  | none => rfl
  | some ad => rfl
 ·subst h1
  have := Xah (P := P) p off ByteArray.empty (fun j hj => h7 j (by omega))
  rw [hl] at this
  show (Extern.Bytes.loadBytes ⟨gb, off, none⟩ n ByteArray.empty).run P w = _
  rw [this]
  show Result.ok (⟨(#[] : Array UInt8) ++ (Lib.bytesOf p).toArray⟩ : ByteArray) w = _
  rw [Array.empty_append]
theorem Xb5 {x y : Int} (hx : 0 ≤ x ∧ x < 256) (hy : 0 ≤ y ∧ y < 256) : (UInt8.ofNat x.toNat < UInt8.ofNat y.toNat) ↔ x < y := by
 rw [UInt8.lt_iff_toNat_lt, UInt8.toNat_ofNat', UInt8.toNat_ofNat']
 omega
theorem Xbf : ∀ p q : List Int, (∀ x ∈ p, 0 ≤ x ∧ x < 256) → (∀ x ∈ q, 0 ≤ x ∧ x < 256) → Lib.compareBytes (Lib.bytesOf p) (Lib.bytesOf q) = cmpP p q
  | [], [], _, _ => rfl
  | [], y :: q, _, _ => by simp [Lib.bytesOf, Lib.compareBytes, cmpP, lessP]
  | x :: p, [], _, _ => by simp [Lib.bytesOf, Lib.compareBytes, cmpP, lessP]
  | x :: p, y :: q, hp, hq => by
    have hx := hp x (by simp)
    have hy := hq y (by simp)
    have ih := Xbf p q (fun z hz => hp z (List.mem_cons_of_mem _ hz)) (fun z hz => hq z (List.mem_cons_of_mem _ hz))
    have e : Lib.compareBytes (Lib.bytesOf (x :: p)) (Lib.bytesOf (y :: q)) = if UInt8.ofNat x.toNat < UInt8.ofNat y.toNat then -1 else if UInt8.ofNat y.toNat < UInt8.ofNat x.toNat then 1 else Lib.compareBytes (Lib.bytesOf p) (Lib.bytesOf q) := rfl
    rw [e, ih]
    simp only [Xb5 hx hy, Xb5 hy hx]
    by_cases h : x = y
    · subst h
      have e2 : cmpP (x :: p) (x :: q) = cmpP p q := by
        unfold cmpP
        simp [lessP]
      rw [e2]
      simp
    · have e2 : cmpP (x :: p) (y :: q) = if x < y then -1 else 1 := by
        unfold cmpP
        simp [lessP, h]
      rw [e2]
      by_cases h1 : x < y
      · simp [h1]
      · rw [if_neg h1, if_neg h1, if_pos (by omega)]
theorem Xb2 (h1 : Sk K w a n c p) (h2 : Sk K' w a' n' c' q) : (Extern.BytealgCompare.compare #[.slice a n c, .slice a' n' c']).run P w = .ok (.int .i64 (cmpP p q)) w := by
 change Sem.run P (do pure (goInt (Extern.BytealgCompare.cmp (← Extern.Bytes.bytesOf (.slice a n c)) (← Extern.Bytes.bytesOf (.slice a' n' c'))))) w = _
 simp only [Sem.run_bind, Xam h1, Xam h2, Sem.run_pure, Result.andThen]
 rw [Lib.cmp_eq]
 show Result.ok (goInt (Lib.compareBytes (Lib.bytesOf p) (Lib.bytesOf q))) w = _
 rw [Xbf p q h1.ag.b h2.ag.b]
 rfl
theorem Xb9 {w : World} {ρ : Operand → Value} {o : Oper} {u v r : Value} (x y : Operand) (tys : Array TypeId) (ho : o.op = .call { callee := .value (.func 48), args := #[x, y], argTypes := tys }) (hf : ρ (.func 48) = .func (.func 48) #[] #[]) (hx : ρ x = u) (hy : ρ y = v) (hr : (Extern.BytealgCompare.compare #[u, v]).run Tryz.prog w = .ok r w) : (execOp ρ o).run Tryz.prog w = .ok (.value r) w := by
 unfold execOp
 simp only [ho, resolve, hf, Deferred.ofValue, Sem.run_bind, Sem.run_pure, Result.andThen_ok, List.map_toArray, List.map_cons, List.map_nil, hx, hy, invoke, List.append_toArray, List.nil_append, List.append_nil]
 rw [run_callFunc_extern Tryz.func48 (by kernel_rfl) (by kernel_rfl) (by kernel_rfl) (e := Extern.BytealgCompare.compare) (by kernel_rfl), hr]
 rfl
theorem Xbp (h1 : Sk K w a n c p) (h2 : Sk K' w a' n' c' q) :
    Calls Tryz.prog 24 #[.slice a n c, .slice a' n' c'] w fun e w' => e = .returned (.int .i64 (cmpP p q)) ∧ w' = w := by
  refine Zaj Tryz.func24 rfl 8 rfl ?_
  show CW _ _ _ _ _ _ _ [(0, .slice a n c), (1, .slice a' n' c')] _
  refine Zac ?_
  refine Zaa ?_
  refine rp 4 (.int .i64 0) ?_
  refine Zad ?_
  refine Zab ?_
  refine Zac ?_
  refine Zaa ?_
  refine rp 5 (.slice a n c) ?_
  refine rp 6 (.slice a' n' c') ?_
  refine rv 7 (.int .i64 (cmpP p q)) (fun _ => Xb9 _ _ _ rfl rfl (by kernel_rfl) (by kernel_rfl) (Xb2 h1 h2)) ?_
  refine rp 4 (.int .i64 (cmpP p q)) ?_
  refine Zad ?_
  refine Zab ?_
  refine Zap ?_
  exact Zae (.int .i64 (cmpP p q)) (fun _ => by kernel_rfl) ⟨rfl, rfl⟩
theorem Sk.tou {bs : List Int} (h : Sk K w a n c bs) (t : Touch g w w') (hg : ¬ K g) : Sk K w' a n c bs := by
 refine ⟨⟨?_, h.ag.nil, h.ag.l, h.ag.b⟩, h.k⟩
 rcases h.ag.i with h1 | ⟨gb, off, h1, h2, h3, h4, h5, h7⟩
 ·exact .inl h1
 ·refine .inr ⟨gb, off, h1, h2, h3, h4, h5, fun j hj => ?_⟩
  rw [← h7 j hj]
  have hk := h.k _ h1 h3
  exact World.cell?_of_block (t.block gb (block_lt_of_cell (h7 j hj)) (fun e => hg (e ▸ hk)))
def Gd (K : Nat → Prop) (w : World) (p : Value × List Int) : Prop := ∃ a n c, p.1 = .slice a n c ∧ Sk K w a n c p.2
theorem Gd.tou {p : Value × List Int} (h : Gd K w p) (t : Touch g w w') (hg : ¬ K g) : Gd K w' p := by
 obtain ⟨a, n, c, h1, h2⟩ := h
 exact ⟨a, n, c, h1, h2.tou t hg⟩
abbrev Gp (K : Nat → Prop) (w : World) : Type := {p : Value × List Int // Gd K w p}
def encQ {K : Nat → Prop} {w : World} (x : Gp K w) : Value := x.1.1
def ordQ {K : Nat → Prop} {w : World} (x y : Gp K w) : Int := cmpP x.1.2 y.1.2
theorem Xaq (x y : Gp K w) : Go.Proofs.ltOf ordQ x y = lessP x.1.2 y.1.2 := Xce _ _
theorem swoP (K : Nat → Prop) (w : World) : Sort.SWO (Go.Proofs.ltOf (ordQ (K := K) (w := w))) := ⟨fun x => by rw [Xaq]; exact Xat _, fun x y z h1 h2 => by rw [Xaq] at *; exact Xai _ _ _ h1 h2, fun x y z h1 h2 => by
  rw [Xaq] at *
  cases hq : lessP x.1.2 z.1.2 with
  | false => rfl
  | true =>
    by_cases e : x.1.2 = y.1.2
    · rw [e] at hq; rw [hq] at h2; cases h2
    · have h3 := Xa2 x.1.2 y.1.2 e h1
      have h4 := Xai _ _ _ h3 hq
      rw [h4] at h2; cases h2⟩
theorem Xan (w : World) (b k : Nat) (f : Array Value → Array Value) (h : k ≠ b) : (Sort.mapBlock w b f).heap[k]? = w.heap[k]? := by
 unfold Sort.mapBlock
 simp [Array.getElem?_modify, Ne.symm h]
theorem Xak [Inhabited α] (enc : α → Value) (w : World) (gb nn : Nat) (d : Array α) (os : Array Obj) : Touch gb w (sortWorld enc w gb 0 nn d os) := by
 refine ⟨rfl, rfl, rfl, ?_, fun k hk hne => ?_⟩
 ·simp [sortWorld, putRow, Sort.mapBlock, Sort.grow, Sort.ahead]
 ·show ((putRow enc (Sort.ahead w nn) gb 0 d).heap ++ os)[k]? = w.heap[k]?
  have hsz2 : (putRow enc (Sort.ahead w nn) gb 0 d).heap.size = w.heap.size := by simp [putRow, Sort.mapBlock, Sort.ahead]
  rw [Array.getElem?_append_left (by rw [hsz2]; exact hk)]
  exact Xan (Sort.ahead w nn) gb k _ hne
theorem Xa8 [Inhabited α] (enc : α → Value) (w : World) (gb nn : Nat) (d : Array α) (os : Array Obj) {cur : Array Value} {T : TypeId} (h : Rw gb w cur T) : Rw gb (sortWorld enc w gb 0 nn d os) (putCells enc 0 d cur) T := by
 show ((putRow enc (Sort.ahead w nn) gb 0 d).heap ++ os)[gb]? = _
 have hsz2 : (putRow enc (Sort.ahead w nn) gb 0 d).heap.size = w.heap.size := by simp [putRow, Sort.mapBlock, Sort.ahead]
 rw [Array.getElem?_append_left (by rw [hsz2]; exact lt_of_get h)]
 unfold Rw at h
 have h' : (Sort.ahead w nn).heap[gb]? = some (.cells cur T (0, 0)) := h
 simp only [putRow, Sort.mapBlock, Array.getElem?_modify, h', Option.map_some, ↓reduceIte]
 rfl
theorem Xa5 {gb cap : Nat} {ps : List (Value × List Int)} {cur : Array Value} (hr : Rw gb w cur 29) (hcur : cur.toList.take n = ps.map Prod.fst) (hsz : cur.size = cap) (hn : ps.length = n) (hle : n ≤ cap) (hg : ∀ p ∈ ps, Gd K w p) (hK : ¬ K gb) (h0 : 0 < n) (hb : n ≤ 8800000000002) :
    Calls Tryz.prog 23 #[.slice (some ⟨gb, 0, none⟩) n cap, .func (.func 24) #[] #[]] w fun e w' => ∃ u, e = .returned u ∧ (fun u w' => u = .tuple #[] ∧ (∃ (ps' : List (Value × List Int)) (cur' : Array Value), ps'.Perm ps ∧ ps'.Pairwise (fun p q => lessP q.2 p.2 = false) ∧ Rw gb w' cur' 29 ∧ cur'.toList.take n = ps'.map Prod.fst ∧ cur'.size = cap) ∧ Touch gb w w') u w' := by
  obtain ⟨xs, hxs⟩ : ∃ xs : List (Gp K w), xs.map Subtype.val = ps := ⟨ps.pmap Subtype.mk hg, by simp [List.map_pmap]⟩
  have hxl : xs.length = n := by rw [← hn, ← hxs, List.length_map]
  have x0 : Gp K w := xs[0]'(by omega)
  haveI : Inhabited (Gp K w) := ⟨x0⟩
  have hsx : xs.toArray.size = n := by simp [hxl]
  have hcell : ∀ j (hj : j < n), cur[j]? = some (encQ (xs[j]'(by omega))) := by
    intro j hj
    have := congrArg (fun l => l[j]?) hcur
    rw [← hxs] at this
    simp only [List.getElem?_take_of_lt hj, List.map_map, List.getElem?_map, Array.getElem?_toList, List.getElem?_eq_getElem (show j < xs.length by omega), Option.map_some] at this
    exact this
  have hH : Holds encQ w gb 0 xs.toArray := by
    intro j hj
    rw [hsx] at hj
    refine ⟨?_, frozen_of_row _ _ _ _ _ hr⟩
    rw [cell_of_row _ _ _ _ _ _ hr, Nat.zero_add, hcell j hj]
    have : xs.toArray[j]! = xs[j]'(by omega) := by simp [hxl, hj]
    rw [this]
  have hcon := Go.Proofs.Any.slices_SortFunc sortB (encQ (K := K) (w := w)) (fun x => by
      obtain ⟨⟨v, b⟩, a, m, c, e, hs⟩ := x
      show v.oneCell' = true
      rw [show v = .slice a m c from e]; rfl) ordQ (swoP K w) 24 #[] gb 0 cap xs.toArray w (fun args w => by kernel_rfl)
    (fun mm os dk _ x y => by
      obtain ⟨⟨v, b⟩, a, m, c, e, hs⟩ := x
      obtain ⟨⟨v2, b2⟩, a2, m2, c2, e2, hs2⟩ := y
      have ht := Xak (encQ (K := K) (w := w)) w gb mm dk os
      have h1 := Xbp (hs.tou ht hK) (hs2.tou ht hK)
      have e : v = .slice a m c := e
      have e2 : v2 = .slice a2 m2 c2 := e2
      subst e e2
      refine (show Calls Tryz.prog 24 (#[.slice a m c, .slice a2 m2 c2] ++ #[]) _ _ from h1).mono ?_
      rintro e w' ⟨rfl, rfl⟩
      exact ⟨rfl, 0, #[], by simp [Sort.grow, World.drewN]⟩) hH (lt_of_get hr) (by rw [hsx]; omega)
  rw [hsx] at hcon
  refine (show Calls Tryz.prog 23 #[.slice (some ⟨gb, 0, none⟩) n cap, .func (.func 24) #[] #[]] w _ from hcon).mono ?_
  rintro e w' ⟨rfl, d', nn, os, hp, hs, rfl⟩
  have hps : d'.size = n := by rw [hp.1, hsx]
  refine ⟨_, rfl, rfl, ⟨d'.toList.map Subtype.val, putCells encQ 0 d' cur, ?_, ?_, Xa8 _ _ _ _ _ _ hr, ?_, ?_⟩, Xak _ _ _ _ _ _⟩
  · have := hp.2.2
    rw [show d'.extract 0 n = d' from by rw [← hps]; simp, show xs.toArray.extract 0 n = xs.toArray from by rw [← hsx]; simp] at this
    rw [← hxs]
    exact this.map _
  · rw [List.pairwise_map, List.pairwise_iff_getElem]
    intro i j hi hj hij
    simp at hi hj
    have h1 := hs i j (Nat.zero_le _) hij (by omega)
    rw [Xaq] at h1
    simp only [hi, hj, getElem!_pos] at h1
    simpa using h1
  · apply List.ext_getElem?
    intro j
    by_cases hj : j < n
    · rw [List.getElem?_take_of_lt hj, Array.getElem?_toList]
      have hc : j < cur.size := by omega
      simp only [putCells, Array.getElem?_mapIdx, Array.getElem?_eq_getElem hc, Option.map_some, List.map_map, List.getElem?_map, Array.getElem?_toList]
      rw [if_pos ⟨Nat.zero_le _, by omega⟩, Nat.sub_zero, getElem!_pos d' j (by omega), Array.getElem?_eq_getElem (show j < d'.size by omega)]
      rfl
    · rw [List.getElem?_eq_none (by simp; omega), List.getElem?_eq_none (by simp; omega)]
  · simp [putCells, hsz]
def isS (u : Value) : Prop := ∃ a n c, u = .slice a n c
def SlB (w : World) (v : Value) : Prop := ∀ k cur T fr, v.ownBlock = some k → w.heap[k]? = some (.cells cur T fr) → ∀ u ∈ cur.toList, isS u
theorem Xbh (n : Nat) : ∀ u ∈ (Builtin.zeroCells #[.slice none 0 0] n).toList, isS u := by
 intro u hu
 unfold Builtin.zeroCells at hu
 simp only [Array.toList_map, List.mem_map] at hu
 obtain ⟨i, _, rfl⟩ := hu
 have e : i % 1 = 0 := Nat.mod_one _
 exact ⟨none, 0, 0, by simp [e]⟩
theorem SlB.nil (w : World) : SlB w (.slice none 0 0) := fun k cur T fr hk => by simp [Value.ownBlock] at hk
theorem Xcg {base : Nat} {t ty e : TypeId} {i : TypeInfo} (ht : P.underlying t = some (.slice e)) (hi : P.info? e = some i) (hz : i.zero = some (.slice none 0 0)) (hsize : i.size = 1) (hby : i.bytes = 24)
    {v : Value} {xs : List Value} (hown : w.ownsRow base e 1 v n xs) (hs : SlB w v) {a : Addr} {m : Nat} {news : List Value} (hl : news.length = m * 1) (hnews : ∀ j u, news[j]? = some u → w.cell? (a.add j) = some u) (hsn : ∀ u ∈ news, isS u) (hm : 0 < m)
    (h63 : n + m ≤ maxLen) (hbytes : (n + m) * 24 ≤ 140737488355328) {v' : Value} (hr : (Builtin.append_ #[t, t] ty #[v, .slice (some a) m c]).run P w = .ok v' w') : SlB w' v' := by
  have h1 : ∀ u ∈ news, u.oneCell' = true := fun u hu => by obtain ⟨_, _, _, rfl⟩ := hsn u hu; rfl
  have hsmall : n + m ≤ 9223372036854775807 := by simp only [maxLen] at h63; omega
  have hxs : ∀ {g cap : Nat}, v = .slice (some ⟨g, 0, none⟩) n cap → ∀ u ∈ xs, isS u := by
    intro g cap ev u hu
    rcases hown.2 with ⟨rfl, rfl⟩ | ⟨g', cap', cur, rfl, hbg, hg, hnc, hcm, hcs, htake⟩
    · cases ev
    · exact hs g' cur e (0, 0) rfl hg u (by rw [← htake] at hu; exact List.mem_of_mem_take hu)
  have hnew : ∀ {ys : List Value} {q : Nat}, (∀ u ∈ ys, isS u) → ∀ u ∈ (ys.toArray ++ news.toArray ++ Builtin.zeroCells #[.slice none 0 0] q).toList, isS u := by
    intro ys q hy u hu
    simp only [Array.toList_append, List.mem_append] at hu
    rcases hu with (hu | hu) | hu
    · exact hy u hu
    · exact hsn u hu
    · exact Xbh _ u hu
  have hal : ∀ {cs : Array Value} {q r : Nat}, (∀ u ∈ cs.toList, isS u) → SlB (w.drew.alloc (.cells cs e)) (.slice (some ⟨w.heap.size, 0, none⟩) q r) := by
    intro cs q r hcs k cur T fr hk hh
    simp only [Value.ownBlock, Option.some.injEq] at hk
    subst hk
    rw [show w.heap.size = w.drew.heap.size from rfl, heap_alloc_new w.drew] at hh
    cases hh
    exact hcs
  rcases id hown.2 with ⟨rfl, rfl⟩ | ⟨g, cap, cur, rfl, hbg, hg, hnc, hcm, hcs, htake⟩
  · have hq := run_append_nil (P := P) w t ty e i _ ht hi hz a m c news (by rw [hsize]; exact hl) hnews hm (by omega) (by rw [hby]; omega)
    rw [hq] at hr
    cases hr
    refine hal ?_
    have := hnew (ys := []) (q := grownCap w m 0 e - m) (fun u hu => by cases hu)
    rw [show ([] : List Value).toArray = #[] from rfl, Array.empty_append] at this
    exact this
  · by_cases hroom : n + m ≤ cap
    · have hfit : n * i.size + news.length ≤ cur.size := by rw [hl, hcs, hsize, ← Nat.add_mul]; exact Nat.mul_le_mul_right _ hroom
      have hq := run_append_room (P := P) w t ty e i ht hi g n cap cur hg a m c news (by rw [hsize]; exact hl) hnews h1 hroom hfit
      rw [hq] at hr
      cases hr
      intro k cur' T fr hk hh
      simp only [Value.ownBlock, Option.some.injEq] at hk
      subst hk
      rw [setRow_heap w g cur _ e _ hg] at hh
      cases hh
      intro u hu
      have hcu := hs g cur e (0, 0) rfl hg
      simp only [List.mem_append] at hu
      rcases hu with (hu | hu) | hu
      · exact hcu u (List.mem_of_mem_take hu)
      · exact hsn u hu
      · exact hcu u (List.mem_of_mem_drop hu)
    · have holds : ∀ j u, xs[j]? = some u → w.cell? ((⟨g, 0, none⟩ : Addr).add j) = some u := hown.cells (g := g) rfl
      have hq := run_append_grow (P := P) w t ty e i _ ht hi hz ⟨g, 0, none⟩ n cap xs (by rw [hsize]; exact hown.1) holds a m c news (by rw [hsize]; exact hl) hnews (by omega) (by omega) (by rw [hby]; exact growslice_fits (by omega) hbytes)
      rw [hq] at hr
      cases hr
      exact hal (hnew (hxs rfl))
end Go.Proofs.YtchgejomcgoaeaaGreat

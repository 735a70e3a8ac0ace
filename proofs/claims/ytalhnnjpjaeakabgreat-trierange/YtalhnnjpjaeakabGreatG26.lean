/- An empty trie's root; what is done ahead of the statements. -/
import Derived.Test.YtalhnnjpjaeakabGreatG08
import Derived.Test.YtalhnnjpjaeakabGreatG25
import Derived.Lib.SlBytesConst
import Derived.Test.YtalhnnjpjaeakabGreatG00
import Derived.Test.YtalhnnjpjaeakabGreatG02
import Derived.Test.YtalhnnjpjaeakabGreatG03
namespace Go.Proofs.YtalhnnjpjaeakabGreat
open Go.RowKit
open Tr
open Di (dref)
set_option linter.unusedVariables false
set_option maxRecDepth 100000
theorem results_d {fn : Func} {p : Tmp} {f : Nat → Value} (h : fn.results = #[.cell p 46]) (w : World) (g : Nat) (ds : List Int) (hl : ds.length = 32) (hp : f p = .pointer (some ⟨g, 0, none⟩)) (hg : Rw g w (B8 ds) 46) : (resF f fn.results).run Tryz.prog w = .ok (.agg (B8 ds)) w := by
  have := run_loadVar_row (P := Tryz.prog) w g 46 46 _ _ _ hg Tryz.underlying46 rfl (infoD' hl)
  unfold resF
  rw [h]
  simp [hp, this, asAddr]
theorem ol_eqD {ρ : Operand → Value} {w : World} {x y : Operand} {o : Oper} {ds : List Int} (ho : o.op = .binOp .eql 46 x y 46) (hx : ρ x = .agg (B8 ds)) (hy : ρ y = .agg (B8 ds)) (hl : ds.length = 32) : (execOp ρ o).run Tryz.prog w = .ok (.value (.bool true)) w := by
  have e := eqD ds ds hl hl w
  simp at e
  unfold execOp
  rw [ho]
  simp only [hx, hy]
  go_simp
/-- '[]byte("a")' -/
theorem const_a {w1 w2 : World} {g : Nat} {x : Int} (hx : 0 ≤ x ∧ x < 256) (hn : New w1 w2 g #[.int .u8 x] 5) {K : Nat → Prop} (hK : ∀ b, w1.heap.size ≤ b → K b) : ∃ w3, (∀ (ρ : Operand → Value) (o : Oper) (y : Operand), o.op = .convert 27 27 y → ρ y = .slice (some ⟨g, 0, none⟩) 1 1 → (execOp ρ o).run Tryz.prog w2 = .ok (.value (.slice (some ⟨g, 0, none⟩) 1 1)) w3) ∧ Below w1.heap.size w1 w3 ∧ Sk K w3 (some ⟨g, 0, none⟩) 1 1 [x] := by
  obtain ⟨rfl, rfl⟩ := hn
  refine ⟨w1.alloc (.cells #[.int .u8 x] 5 (1, 2)), ?_, (Below.refl _ _).alloc (Nat.le_refl _) _, ?_⟩
  · intro ρ o y ho hy
    have := Lib.run_convert_bytes_const (P := Tryz.prog) w1 27 5 #[.int .u8 x] 1 1 Tryz.underlying27 Tryz.underlying5
    unfold execOp
    simp only [ho, hy, Sem.run_bind, this, Result.andThen_ok, Sem.run_pure]
    rfl
  · refine ⟨⟨.inr ⟨w1.heap.size, 0, rfl, rfl, by omega, by omega, by unfold maxLen; omega, fun j hj => ?_⟩, (fun e => by cases e), rfl, fun y hy => by rw [List.mem_singleton.1 hy]; exact hx⟩, fun y hy _ => ?_⟩
    · have : j = 0 := by simpa using hj
      subst this
      rw [cell_of_row _ _ _ _ _ _ (heap_alloc_new w1 _)]; rfl
    · cases hy
      exact hK _ (Nat.le_refl _)
theorem Tri.lt {K : Nat → Prop} {w : World} {g : Nat} {t : Tr} (h : Tri K w g t) : g < w.heap.size := by
  obtain ⟨⟨v, h1, _⟩, _⟩ := h
  exact lt_of_get h1
theorem Rw.touch {g g' : Nat} {w w' : World} {cells : Array Value} {T : TypeId} (h : Rw g w cells T) (ht : Touch g' w w') (hne : g ≠ g') : Rw g w' cells T := (ht.block g (lt_of_get h) hne).trans h
theorem tget_ok {K : Nat → Prop} {w : World} {g : Nat} {t : Tr} {a : Option Addr} {n c : Nat} {k : List Int} (h : Tri K w g t) {K1 : Nat → Prop} (hk : Sk K1 w a n c k) (hn : n ≤ 32) (hK : ∀ b, w.heap.size ≤ b → K b) :
    Calls Tryz.prog 9 #[.pointer (some ⟨g, 0, none⟩), .slice a n c] w fun e w' => ∃ u, e = .returned u ∧ (∃ a2 n2 c2 b, u = .tuple #[.slice a2 n2 c2, .bool b, .int .i64 0] ∧ b = decide (Tr.get t (Ni.nib k) ≠ []) ∧ Sk (fun b => w.heap.size ≤ b) w' a2 n2 c2 (Tr.get t (Ni.nib k))) ∧ Bl w w' := by
  obtain ⟨⟨v, h1, h2⟩, h3⟩ := h
  exact get_ok h1 h2 h3 hk hn hK
/-- What a Put does to the tree, what it answers. -/
def putT (t : Tr) (k x : List Int) : Tr := if k.length ≤ 32 ∧ 0 < x.length ∧ x.length ≤ 256 then put t (Ni.nib k) x else t
def putE (k x : List Int) : Int := if k.length ≤ 32 then (if 0 < x.length ∧ x.length ≤ 256 then 0 else 71) else 70
def delT (t : Tr) (k : List Int) : Tr := if k.length ≤ 32 ∧ Tr.get t (Ni.nib k) ≠ [] then del t (Ni.nib k) else t
theorem tput_any {K K0 : Nat → Prop} {w : World} {g : Nat} {t : Tr} {a : Option Addr} {n c : Nat} {k : List Int} (h : Tri K w g t) {K1 : Nat → Prop} (hk : Sk K1 w a n c k) {ax : Option Addr} {nx cx : Nat} {x : List Int} (hx : Sk K0 w ax nx cx x) (hK : ∀ b, w.heap.size ≤ b → K b) :
    Calls Tryz.prog 8 #[.pointer (some ⟨g, 0, none⟩), .slice a n c, .slice ax nx cx] w fun e w' => ∃ u, e = .returned u ∧ u = .int .i64 (putE k x) ∧ Tri K w' g (putT t k x) ∧ Touch g w w' := by
  have lk := hk.len
  have lx := hx.len
  unfold putE putT
  rw [lk, lx]
  by_cases hn : n ≤ 32
  · by_cases h0 : 0 < nx
    · by_cases h2 : nx ≤ 256
      · rw [if_pos hn, if_pos ⟨h0, h2⟩, if_pos ⟨hn, h0, h2⟩]
        obtain ⟨⟨v, h1, h2'⟩, h3⟩ := h
        exact tput_ok h1 h2' h3 hk hn hx h2 h0 hK
      · rw [if_pos hn, if_neg (fun q => h2 q.2), if_neg (fun q => h2 q.2.2)]
        exact (tput_vf hk hx hn (by omega)).mono (fun e w' ⟨u, e1, e2, e3⟩ => ⟨u, e1, e2, h.go e3, Touch.of_below e3⟩)
    · rw [if_pos hn, if_neg (fun q => h0 q.1), if_neg (fun q => h0 q.2.1)]
      exact (tput_v0 hk hx hn (by omega)).mono (fun e w' ⟨u, e1, e2, e3⟩ => ⟨u, e1, e2, h.go e3, Touch.of_below e3⟩)
  · rw [if_neg hn, if_neg (fun q => hn q.1)]
    exact (tput_k hk hx (by omega)).mono (fun e w' ⟨u, e1, e2, e3⟩ => ⟨u, e1, e2, h.go e3, Touch.of_below e3⟩)
set_option maxHeartbeats 2000000 in
theorem root_no {w : World} {g : Nat} (hr : Rw g w #[.nilIface] 56) :
    Calls Tryz.prog 11 #[.pointer (some ⟨g, 0, none⟩)] w fun e w' => ∃ u, e = .returned u ∧ (fun u w' => u = .agg (B8 (dref [128])) ∧ Bl w w') u w' := by
  have hB := Bl.refl w
  have hdl := dref_len [128]
  obtain ⟨ds, hds⟩ : ∃ ds, dref [128] = ds := ⟨_, rfl⟩
  rw [hds] at hdl ⊢
  refine cw_enter Tryz.func11 rfl 16 rfl ?_
  show CW _ _ _ _ _ _ _ [(0, .pointer (some ⟨g, 0, none⟩))] _
  refine cw_seq ?_
  refine cw_region ?_
  refine rw_new 2 (B8 z32) 46 (fun _ => by kernel_rfl) (fun _ => by kernel_rfl) ?_
  intro w1 g2 hn3
  replace hB := hB.go hn3.below
  replace hr := hr.go hn3.below
  have hr4 : Rw g2 w1 (B8 z32) 46 := hn3.row
  have hgd := hn3.hg
  refine rw_nil ?_
  refine nw_then ?_
  refine cw_seq ?_
  refine cw_seq ?_
  refine cw_region ?_
  refine rp 3 (.pointer (some ⟨g, 0, none⟩)) ?_
  refine rp 4 (.pointer (some ⟨g, 0, none⟩)) ?_
  refine rp 5 (.pointer (some ⟨g, 0, none⟩)) ?_
  refine rv 6 (.nilIface) (fun _ => ol_cell 54 _ ⟨g, 0, none⟩ _ _ rfl (by kernel_rfl) (by rw [cell_of_row _ _ _ _ _ _ hr]; rfl) Tryz.underlying54 rfl) ?_
  refine rp 7 (.bool true) ?_
  refine rw_nil ?_
  refine nw_then ?_
  refine cw_cond_t (fun _ => by kernel_rfl) ?_
  refine cw_seq ?_
  refine cw_region ?_
  refine rw_call 8 24 #[] (fun _ => by kernel_rfl) (fun _ => by kernel_rfl) (R := fun u w' => u = .agg (B8 ds) ∧ Bl (w1) w') ((emptyRoot_any (w1)).mono (fun e w' h => ⟨_, by rw [h.1, hds], rfl, h.2⟩)) ?_
  rintro _ u5 ⟨rfl, hb6⟩
  replace hB := hB.go hb6
  replace hr := hr.go hb6
  replace hr4 := hr4.go hb6
  refine rw_put g2 (B8 ds) (fun _ => by kernel_rfl) (fun _ => ol_store 46 _ _ _ _ _ _ rfl (by kernel_rfl) (by kernel_rfl) hr4 (infoD' hdl) (z8_size hdl) (B8_one _)) ?_
  intro uE hpE
  replace hB : Bl w uE := hpE.below hB (by omega) hB.size
  have hrE : Rw g2 uE (B8 ds) 46 := hpE.row hr4
  refine rw_nil ?_
  refine nw_then ?_
  refine cw_ret ?_
  refine nw_ret_then ?_
  exact nw_ret_body (.agg (B8 ds)) (fun _ => results_d Tryz.results11 _ g2 ds hdl (by kernel_rfl) hrE) ⟨_, rfl, rfl, hB⟩
theorem tdel_a {K : Nat → Prop} {w : World} {g : Nat} {a : Option Addr} {n c : Nat} (h : Tri K w g (put no (Ni.nib [97]) [1])) (hk : Sk K w a n c [97]) (hK : ∀ b, w.heap.size ≤ b → K b) :
    Calls Tryz.prog 10 #[.pointer (some ⟨g, 0, none⟩), .slice a n c] w fun e w' => ∃ u, e = .returned u ∧ u = .tuple #[.bool true, .int .i64 0] ∧ Tri K w' g no ∧ Touch g w w' := by
  obtain ⟨⟨v, h1, h2⟩, h3⟩ := h
  have hn : n = 1 := hk.len.symm
  exact delete_some h1 h2 h3 hk (by omega) hK (by decide +kernel)
set_option maxHeartbeats 4000000 in
theorem begun_any {K : Nat → Prop} {w : World} (hK : ∀ b, w.heap.size ≤ b → K b) :
    Calls Tryz.prog 4 #[] w fun e w' => ∃ u, e = .returned u ∧ (fun u w' => (∃ g, u = .tuple #[.pointer (some ⟨g, 0, none⟩), .bool true] ∧ w.heap.size ≤ g ∧ Tri K w' g no) ∧ Bl w w') u w' := by
  have hB := Bl.refl w
  have hdl := dref_len [128]
  obtain ⟨ds, hds⟩ : ∃ ds, dref [128] = ds := ⟨_, rfl⟩
  rw [hds] at hdl
  refine cw_enter Tryz.func4 rfl 60 rfl ?_
  show CW _ _ _ _ _ _ _ [] _
  refine cw_seq ?_
  refine cw_region ?_
  refine rp 0 (.pointer none) ?_
  refine rp 1 (.bool false) ?_
  refine rw_nil ?_
  refine nw_then ?_
  refine cw_seq ?_
  refine cw_region ?_
  refine rw_call 9 7 #[] (fun _ => by kernel_rfl) (fun _ => by kernel_rfl) (R := fun u w' => (∃ g, u = .pointer (some ⟨g, 0, none⟩) ∧ (w).heap.size ≤ g ∧ Tri K w' g no) ∧ Bl (w) w') (new_any (K := K)) ?_
  rintro _ u1 ⟨⟨g1, rfl, hg1, hT1⟩, hb2⟩
  have hsz1 := hB.size
  replace hB := hB.go hb2
  refine rp 2 (.pointer (some ⟨g1, 0, none⟩)) ?_
  refine rw_nil ?_
  refine nw_then ?_
  refine cw_seq ?_
  refine cw_seq ?_
  refine cw_region ?_
  refine rp 10 (.pointer (some ⟨g1, 0, none⟩)) ?_
  refine rp 11 (.bool false) ?_
  refine rw_nil ?_
  refine nw_then ?_
  refine cw_cond_f (fun _ => by kernel_rfl) ?_
  refine cw_skip ?_
  refine nw_then ?_
  refine cw_seq ?_
  refine cw_region ?_
  refine rp 12 (.pointer (some ⟨g1, 0, none⟩)) ?_
  refine rw_newS 13 #[.int .u8 97] 5 1 (fun _ => by kernel_rfl) (fun _ => by kernel_rfl) ?_
  intro w3 ga4 hn5
  have hszhn5 := hB.size
  obtain ⟨w6, hr7, hb8, hs9⟩ := const_a (x := 97) (by omega) hn5 (K := K) (fun b hb => hK b (Nat.le_trans hszhn5 hb))
  refine rw_v 14 (.slice (some ⟨ga4, 0, none⟩) 1 1) (fun _ => by kernel_rfl) (fun _ => hr7 _ _ _ rfl (by kernel_rfl)) ?_
  replace hB := hB.go hb8
  replace hT1 := hT1.go hb8
  refine rw_newS 15 #[.int .u8 1] 5 1 (fun _ => by kernel_rfl) (fun _ => by kernel_rfl) ?_
  intro w10 g11 hn12
  have hzhn12 := hB.size
  replace hB := hB.go hn12.below
  replace hT1 := hT1.go hn12.below
  replace hs9 := hs9.go hn12.below
  have hs13 : Sk K w10 (some ⟨g11, 0, none⟩) 1 1 [1] := one_sk (by omega) hn12 (fun b hb => hK b (Nat.le_trans hzhn12 hb))
  refine rw_call 16 8 #[.pointer (some ⟨g1, 0, none⟩), .slice (some ⟨ga4, 0, none⟩) 1 1, .slice (some ⟨g11, 0, none⟩) 1 1] (fun _ => by kernel_rfl) (fun _ => by kernel_rfl) (R := fun u w' => u = .int .i64 (putE [97] [1]) ∧ Tri K w' g1 (putT no [97] [1]) ∧ Touch g1 (w10) w') ((tput_any hT1 hs9 hs13 (fun b hb => hK b (Nat.le_trans hB.size hb)))) ?_
  rintro _ u14 ⟨rfl, hTn, hto1⟩
  replace hB : Bl w u14 := hto1.below hB (by omega) hB.size
  replace hs9 := hs9.touch hto1 hT1
  replace hs13 := hs13.touch hto1 hT1
  replace hT1 : Tri K u14 g1 (put no (Ni.nib [97]) [1]) := hTn
  refine rp 3 (.int .i64 0) ?_
  refine rw_nil ?_
  refine nw_then ?_
  refine cw_seq ?_
  refine cw_region ?_
  refine rp 18 (.pointer (some ⟨g1, 0, none⟩)) ?_
  refine rw_newS 19 #[.int .u8 97] 5 1 (fun _ => by kernel_rfl) (fun _ => by kernel_rfl) ?_
  intro w15 ga16 hn17
  have hszhn17 := hB.size
  obtain ⟨w18, hr19, hb20, hs21⟩ := const_a (x := 97) (by omega) hn17 (K := K) (fun b hb => hK b (Nat.le_trans hszhn17 hb))
  refine rw_v 20 (.slice (some ⟨ga16, 0, none⟩) 1 1) (fun _ => by kernel_rfl) (fun _ => hr19 _ _ _ rfl (by kernel_rfl)) ?_
  replace hB := hB.go hb20
  replace hT1 := hT1.go hb20
  replace hs9 := hs9.go hb20
  replace hs13 := hs13.go hb20
  refine rw_call 21 9 #[.pointer (some ⟨g1, 0, none⟩), .slice (some ⟨ga16, 0, none⟩) 1 1] (fun _ => by kernel_rfl) (fun _ => by kernel_rfl) (R := fun u w' => (∃ a2 n2 c2 b, u = .tuple #[.slice a2 n2 c2, .bool b, .int .i64 0] ∧ b = decide (Tr.get (put no (Ni.nib [97]) [1]) (Ni.nib [97]) ≠ []) ∧ Sk (fun b => (w18).heap.size ≤ b) w' a2 n2 c2 (Tr.get (put no (Ni.nib [97]) [1]) (Ni.nib [97]))) ∧ Bl (w18) w') ((tget_ok hT1 hs21 (by omega) (fun b hb => hK b (Nat.le_trans hB.size hb)))) ?_
  rintro _ u22 ⟨⟨a2, n2, c2, b2, rfl, eb2, hs2⟩, hb23⟩
  obtain rfl : b2 = true := by rw [eb2]; decide +kernel
  replace hs2 : Sk (fun b => (w18).heap.size ≤ b) u22 a2 n2 c2 [1] := hs2
  replace hB := hB.go hb23
  replace hT1 := hT1.go hb23
  replace hs9 := hs9.go hb23
  replace hs13 := hs13.go hb23
  replace hs21 := hs21.go hb23
  refine rp 17 (.tuple #[.slice a2 n2 c2, .bool true, .int .i64 0]) ?_
  refine rp 22 (.slice a2 n2 c2) ?_
  refine rp 23 (.bool true) ?_
  refine rp 24 (.int .i64 0) ?_
  refine rp 4 (.slice a2 n2 c2) ?_
  refine rp 5 (.bool true) ?_
  refine rp 6 (.int .i64 0) ?_
  refine rw_nil ?_
  refine nw_then ?_
  refine cw_seq ?_
  refine cw_region ?_
  refine rp 26 (.pointer (some ⟨g1, 0, none⟩)) ?_
  refine rw_newS 27 #[.int .u8 97] 5 1 (fun _ => by kernel_rfl) (fun _ => by kernel_rfl) ?_
  intro w24 ga25 hn26
  have hszhn26 := hB.size
  obtain ⟨w27, hr28, hb29, hs30⟩ := const_a (x := 97) (by omega) hn26 (K := K) (fun b hb => hK b (Nat.le_trans hszhn26 hb))
  refine rw_v 28 (.slice (some ⟨ga25, 0, none⟩) 1 1) (fun _ => by kernel_rfl) (fun _ => hr28 _ _ _ rfl (by kernel_rfl)) ?_
  replace hB := hB.go hb29
  replace hT1 := hT1.go hb29
  replace hs9 := hs9.go hb29
  replace hs13 := hs13.go hb29
  replace hs21 := hs21.go hb29
  replace hs2 := hs2.go hb29
  refine rw_call 29 10 #[.pointer (some ⟨g1, 0, none⟩), .slice (some ⟨ga25, 0, none⟩) 1 1] (fun _ => by kernel_rfl) (fun _ => by kernel_rfl) (R := fun u w' => u = .tuple #[.bool true, .int .i64 0] ∧ Tri K w' g1 no ∧ Touch g1 (w27) w') ((tdel_a hT1 hs30 (fun b hb => hK b (Nat.le_trans hB.size hb)))) ?_
  rintro _ u31 ⟨rfl, hTn, hto2⟩
  replace hB : Bl w u31 := hto2.below hB (by omega) hB.size
  replace hs9 := hs9.touch hto2 hT1
  replace hs13 := hs13.touch hto2 hT1
  replace hs21 := hs21.touch hto2 hT1
  replace hs2 := hs2.touch hto2 hT1
  replace hs30 := hs30.touch hto2 hT1
  replace hT1 := hTn
  refine rp 25 (.tuple #[.bool true, .int .i64 0]) ?_
  refine rp 30 (.bool true) ?_
  refine rp 31 (.int .i64 0) ?_
  refine rp 7 (.bool true) ?_
  refine rp 8 (.int .i64 0) ?_
  refine rw_nil ?_
  refine nw_then ?_
  refine cw_seq ?_
  have hS : Sk (fun _ => True) u31 a2 n2 c2 [1] := hs2.mono (fun _ _ => trivial)
  refine cw_draw (fun v => Sk (fun _ => True) v a2 n2 c2 [1]) (by kernel_rfl) (hS.drew) ?_
  replace hB := hB.drew
  replace hT1 := hT1.drew
  replace hs9 := hs9.drew
  replace hs13 := hs13.drew
  replace hs21 := hs21.drew
  replace hs2 := hs2.drew
  replace hs30 := hs30.drew
  replace hS := hS.drew
  refine dt 1 33 (.int .i64 0) (fun v hv _ => by kernel_rfl) hS ?_
  refine dt 2 34 (.bool true) (fun v hv _ => by kernel_rfl) hS ?_
  refine dw_ready [0] (by kernel_rfl) (by simp) ?_
  refine ar_call 0 32 7 #[] rfl (fun _ => by kernel_rfl) (fun _ => by kernel_rfl) (R := fun u w' => (∃ g, u = .pointer (some ⟨g, 0, none⟩) ∧ (u31.drew).heap.size ≤ g ∧ Tri K w' g no) ∧ Bl (u31.drew) w') (new_any (K := K)) (fun u w' h => hS.go h.2) ?_ ar_nil
  rintro _ u32 ⟨⟨g2, rfl, hg2, hT2⟩, hb33⟩
  have hsz2 := hB.size
  replace hB := hB.go hb33
  replace hT1 := hT1.go hb33
  replace hs9 := hs9.go hb33
  replace hs13 := hs13.go hb33
  replace hs21 := hs21.go hb33
  replace hs2 := hs2.go hb33
  replace hs30 := hs30.go hb33
  replace hS := hS.go hb33
  refine dt 3 35 (.bool true) (fun v hv _ => by kernel_rfl) hS ?_
  refine dt 4 36 (.bool true) (fun v hv _ => by kernel_rfl) hS ?_
  refine dt 5 37 (.bool true) (fun v hv _ => by kernel_rfl) hS ?_
  refine dt 6 38 (.bool true) (fun v hv _ => by kernel_rfl) hS ?_
  refine dt 7 39 (.int .i64 0) (fun v hv _ => by kernel_rfl) hS ?_
  refine dt 8 40 (.bool true) (fun v hv _ => by kernel_rfl) hS ?_
  refine dt 9 41 (.bool true) (fun v hv _ => by kernel_rfl) hS ?_
  refine dt 10 42 (.bool true) (fun v hv _ => by kernel_rfl) hS ?_
  refine dt 11 43 (.slice a2 n2 c2) (fun v hv _ => by kernel_rfl) hS ?_
  refine dt 12 44 (.string (strOfNums [1])) (fun v hv _ => hv.run_str _ _ _ rfl (by kernel_rfl)) hS ?_
  refine dt 13 45 (.bool true) (fun v hv _ => ol_eqs 9 _ _ _ (strOfNums [1]) ⟨#[1]⟩ rfl (by kernel_rfl) (by kernel_rfl) (by decide +kernel)) hS ?_
  refine dt 14 46 (.bool true) (fun v hv _ => by kernel_rfl) hS ?_
  refine dt 15 47 (.bool true) (fun v hv _ => by kernel_rfl) hS ?_
  refine dt 16 48 (.bool true) (fun v hv _ => by kernel_rfl) hS ?_
  refine dt 17 49 (.bool true) (fun v hv _ => by kernel_rfl) hS ?_
  refine dt 18 50 (.bool true) (fun v hv _ => by kernel_rfl) hS ?_
  refine dt 19 51 (.int .i64 0) (fun v hv _ => by kernel_rfl) hS ?_
  refine dt 20 52 (.bool true) (fun v hv _ => by kernel_rfl) hS ?_
  refine dt 21 53 (.bool true) (fun v hv _ => by kernel_rfl) hS ?_
  refine dt 22 54 (.bool true) (fun v hv _ => by kernel_rfl) hS ?_
  refine dt 23 55 (.pointer (some ⟨g1, 0, none⟩)) (fun v hv _ => by kernel_rfl) hS ?_
  refine dw_ready [24] (by kernel_rfl) (by simp) ?_
  refine ar_call 24 56 11 #[.pointer (some ⟨g1, 0, none⟩)] rfl (fun _ => by kernel_rfl) (fun _ => by kernel_rfl) (R := fun u w' => u = .agg (B8 ds) ∧ Bl (u32) w') ((by obtain ⟨⟨vT, hrT, htT⟩, _⟩ := hT1; rw [show vT = .nilIface from htT] at hrT; rw [← hds]; exact root_no hrT)) (fun u w' h => hS.go h.2) ?_ ar_nil
  rintro _ u34 ⟨rfl, hb35⟩
  replace hB := hB.go hb35
  replace hT1 := hT1.go hb35
  replace hs9 := hs9.go hb35
  replace hs13 := hs13.go hb35
  replace hs21 := hs21.go hb35
  replace hs2 := hs2.go hb35
  replace hs30 := hs30.go hb35
  replace hS := hS.go hb35
  replace hT2 := hT2.go hb35
  refine dw_ready [25] (by kernel_rfl) (by simp) ?_
  refine ar_call 25 57 12 #[] rfl (fun _ => by kernel_rfl) (fun _ => by kernel_rfl) (R := fun u w' => u = .agg (B8 ds) ∧ Bl (u34) w') (((remptyRoot_any (u34)).mono (fun e w' h => ⟨_, by rw [h.1, hds], rfl, h.2⟩))) (fun u w' h => hS.go h.2) ?_ ar_nil
  rintro _ u36 ⟨rfl, hb37⟩
  replace hB := hB.go hb37
  replace hT1 := hT1.go hb37
  replace hs9 := hs9.go hb37
  replace hs13 := hs13.go hb37
  replace hs21 := hs21.go hb37
  replace hs2 := hs2.go hb37
  replace hs30 := hs30.go hb37
  replace hS := hS.go hb37
  replace hT2 := hT2.go hb37
  refine dt 26 58 (.bool true) (fun v hv _ => ol_eqD rfl (by kernel_rfl) (by kernel_rfl) hdl) hS ?_
  refine dt 27 59 (.bool true) (fun v hv _ => by kernel_rfl) hS ?_
  refine dt 28 0 (.pointer (some ⟨g2, 0, none⟩)) (fun v hv _ => by kernel_rfl) hS ?_
  refine dt 29 1 (.bool true) (fun v hv _ => by kernel_rfl) hS ?_
  refine dw_done (by kernel_rfl) ?_
  refine nw_then ?_
  refine cw_ret ?_
  exact nw_ret_body (.tuple #[.pointer (some ⟨g2, 0, none⟩), .bool true]) (fun _ => by kernel_rfl) ⟨_, rfl, ⟨g2, rfl, Nat.le_trans hsz2 hg2, hT2⟩, hB⟩
end Go.Proofs.YtalhnnjpjaeakabGreat
/- What Right answers. -/
namespace Go.Proofs.YtalhnnjpjaeakabGreat.Ni
open Go.RowKit
set_option linter.unusedVariables false
set_option maxHeartbeats 400000 in
theorem right_any (a : Option Addr) (n c : Nat) (b : List Int) (w : World) (h : Ag w a n c b) (hn : n ≤ 140737488355328) :
    Calls Tryz.prog 29 #[.slice a n c] w fun e w' => e = .returned (.bool (rightP b)) ∧ w' = w := by
  have HL := Hid.mk h.l
  have HC : Hid (0 < n → ∃ g off, a = some ⟨g, off, none⟩ ∧ n ≤ c ∧ c ≤ maxLen ∧ ∀ j, j < n → w.cell? ⟨g, off + j, none⟩ = some (.int .u8 (b.getD j 0))) := Hid.mk (ag_head h)
  have HB := Hid.mk h.b
  clear h
  obtain ⟨res, hres⟩ : ∃ r, rightP b = r := ⟨_, rfl⟩
  rw [hres]
  have HRES := Hid.mk hres
  clear hres
  go_enter Tryz.func29, Tryz.ntmps29
  go_wp2_with fail
  go_loopw [7] (fun i v => ∃ j : Nat, j ≤ n ∧ i = .int .i64 j ∧ (∀ i, i < j → b.getD i 0 ≤ 15) ∧ v = w) (fun i _ => n - (intOf i).toNat)
  case atStart => exact ⟨0, by omega, rfl, fun i hi => by omega, rfl⟩
  case round =>
    obtain ⟨j, hj, rfl, hle, rfl⟩ := hrel
    have HLE := Hid.mk hle
    clear hle
    by_cases hlt : j < n
    · obtain ⟨g, off, rfl, hnc, hcm, hcs⟩ := HC.out (by omega)
      unfold maxLen at hcm
      have hcell := hcs j hlt
      have hx := HB.out _ (getD_mem (show j < b.length by have := HL.out; omega))
      have HX : Hid (b.getD j 0 > 15 → rightP b = false) := Hid.mk (fun h => right_no (by have := HL.out; omega) h)
      have HY : Hid (b.getD j 0 ≤ 15 → ∀ i, i < j + 1 → b.getD i 0 ≤ 15) := Hid.mk (fun h i hi => by
        by_cases e : i = j
        · rw [e]; exact h
        · exact HLE.out i (by omega))
      generalize b.getD j 0 = x at hcell hx HX HY
      obtain ⟨hx0, hx1⟩ := hx
      have hji : (j : Int) < n := by omega
      clear hcs
      by_cases h15 : x > 15
      · have e : res = false := HRES.out.symm.trans (HX.out h15)
        subst e
        go_wp2_with fail
        go_ret
        exact ⟨rfl, rfl⟩
      · have h15' : ¬ x > 15 := h15
        go_wp2_with fail
        exact ⟨⟨j + 1, by omega, by simp, HY.out (by omega), trivial⟩, by simp [intOf]; omega⟩
    · have hji : ¬ (j : Int) < n := by omega
      have e : res = true := HRES.out.symm.trans (right_yes fun i hi => HLE.out i (by have := HL.out; omega))
      subst e
      go_wp2_with fail
      go_ret
      exact ⟨rfl, rfl⟩
end Go.Proofs.YtalhnnjpjaeakabGreat.Ni
/- What Key answers. -/
namespace Go.Proofs.YtalhnnjpjaeakabGreat.Ni
open Go.RowKit
set_option linter.unusedVariables false
theorem kk_row (p : List Int) (m i : Nat) (hm : (kk p).length = m) (hi : i < m) : ((kk p).take i ++ List.replicate (m - i) (0 : Int)).set i ((kk p).getD i 0) = (kk p).take (i + 1) ++ List.replicate (m - (i + 1)) (0 : Int) := by
  rw [take_snoc (by omega), List.append_assoc]
  have e : ((kk p).take i).length = i := by rw [List.length_take]; omega
  rw [List.set_append_right _ _ (by omega), e, Nat.sub_self, show m - i = (m - (i + 1)) + 1 from by omega, List.replicate_succ]
  rfl
end Go.Proofs.YtalhnnjpjaeakabGreat.Ni

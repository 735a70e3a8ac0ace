/- An empty trie's root; what is done ahead of the statements. -/
import Derived.Test.YtalhnnjpjaeakaaG11
import Derived.Test.YtalhnnjpjaeakaaG37
import Derived.Lib.SlBytesConst
namespace Go.Proofs.Ytalhnnjpjaeakaa
open Go.RowKit
open Tr
open Di (dref)
set_option linter.unusedVariables false
set_option maxRecDepth 100000
theorem results_d {fn : Func} {p : Tmp} {f : Nat → Value} (h : fn.results = #[.cell p 38]) (w : World) (g : Nat) (ds : List Int) (hl : ds.length = 32) (hp : f p = .pointer (some ⟨g, 0, none⟩)) (hg : Rw g w (B8 ds) 38) : (resF f fn.results).run Try.prog w = .ok (.agg (B8 ds)) w := by
  have := run_loadVar_row (P := Try.prog) w g 38 38 _ _ _ hg Try.underlying38 rfl (infoD' hl)
  unfold resF
  rw [h]
  simp [hp, this, asAddr]
theorem ol_eqD {ρ : Operand → Value} {w : World} {x y : Operand} {o : Oper} {ds : List Int} (ho : o.op = .binOp .eql 38 x y 38) (hx : ρ x = .agg (B8 ds)) (hy : ρ y = .agg (B8 ds)) (hl : ds.length = 32) : (execOp ρ o).run Try.prog w = .ok (.value (.bool true)) w := by
  have e := eqD ds ds hl hl w
  simp at e
  unfold execOp
  rw [ho]
  simp only [hx, hy]
  go_simp
/-- '[]byte("a")' -/
theorem const_a {w1 w2 : World} {g : Nat} {x : Int} (hx : 0 ≤ x ∧ x < 256) (hn : New w1 w2 g #[.int .u8 x] 5) {K : Nat → Prop} (hK : ∀ b, w1.heap.size ≤ b → K b) : ∃ w3, (∀ (ρ : Operand → Value) (o : Oper) (y : Operand), o.op = .convert 23 23 y → ρ y = .slice (some ⟨g, 0, none⟩) 1 1 → (execOp ρ o).run Try.prog w2 = .ok (.value (.slice (some ⟨g, 0, none⟩) 1 1)) w3) ∧ Below w1.heap.size w1 w3 ∧ Sk K w3 (some ⟨g, 0, none⟩) 1 1 [x] := by
  obtain ⟨rfl, rfl⟩ := hn
  refine ⟨w1.alloc (.cells #[.int .u8 x] 5 (1, 2)), ?_, (Below.refl _ _).alloc (Nat.le_refl _) _, ?_⟩
  · intro ρ o y ho hy
    have := Lib.run_convert_bytes_const (P := Try.prog) w1 23 5 #[.int .u8 x] 1 1 Try.underlying23 Try.underlying5
    unfold execOp
    simp only [ho, hy, Sem.run_bind, this, Result.andThen_ok, Sem.run_pure]
    rfl
  · refine ⟨⟨.inr ⟨w1.heap.size, 0, rfl, rfl, by omega, by omega, by unfold maxLen; omega, fun j hj => ?_⟩, (fun e => by cases e), rfl, fun y hy => by rw [List.mem_singleton.1 hy]; exact hx⟩, fun y hy _ => ?_⟩
    · have : j = 0 := by simpa using hj
      subst this
      rw [cell_of_row _ _ _ _ _ _ (heap_alloc_new w1 _)]; rfl
    · cases hy
      exact hK _ (Nat.le_refl _)
theorem Tri.lt {K : Nat → Prop} {w : World} {g : Nat} {t : Tr} (h : Tri K w g t) : g < w.heap.size := by
  obtain ⟨⟨v, h1, _⟩, _⟩ := h
  exact lt_of_get h1
theorem Rw.touch {g g' : Nat} {w w' : World} {cells : Array Value} {T : TypeId} (h : Rw g w cells T) (ht : Touch g' w w') (hne : g ≠ g') : Rw g w' cells T := (ht.block g (lt_of_get h) hne).trans h
theorem tget_ok {K : Nat → Prop} {w : World} {g : Nat} {t : Tr} {a : Option Addr} {n c : Nat} {k : List Int} (h : Tri K w g t) (hk : Sk K w a n c k) (hn : n ≤ 32) (hK : ∀ b, w.heap.size ≤ b → K b) :
    Calls Try.prog 7 #[.pointer (some ⟨g, 0, none⟩), .slice a n c] w fun e w' => ∃ u, e = .returned u ∧ (∃ a2 n2 c2 b, u = .tuple #[.slice a2 n2 c2, .bool b, .int .i64 0] ∧ b = decide (Tr.get t (Ni.nib k) ≠ []) ∧ Sk (fun b => w.heap.size ≤ b) w' a2 n2 c2 (Tr.get t (Ni.nib k))) ∧ Bl w w' := by
  obtain ⟨⟨v, h1, h2⟩, h3⟩ := h
  exact get_ok h1 h2 h3 hk hn hK
/-- What a Put does to the tree, what it answers. -/
def putT (t : Tr) (k x : List Int) : Tr := if k.length ≤ 32 ∧ 0 < x.length ∧ x.length ≤ 256 then put t (Ni.nib k) x else t
def putE (k x : List Int) : Int := if k.length ≤ 32 then (if 0 < x.length ∧ x.length ≤ 256 then 0 else 71) else 70
def delT (t : Tr) (k : List Int) : Tr := if k.length ≤ 32 ∧ Tr.get t (Ni.nib k) ≠ [] then del t (Ni.nib k) else t
theorem tput_any {K K0 : Nat → Prop} {w : World} {g : Nat} {t : Tr} {a : Option Addr} {n c : Nat} {k : List Int} (h : Tri K w g t) (hk : Sk K w a n c k) {ax : Option Addr} {nx cx : Nat} {x : List Int} (hx : Sk K0 w ax nx cx x) (hK : ∀ b, w.heap.size ≤ b → K b) :
    Calls Try.prog 5 #[.pointer (some ⟨g, 0, none⟩), .slice a n c, .slice ax nx cx] w fun e w' => ∃ u, e = .returned u ∧ u = .int .i64 (putE k x) ∧ Tri K w' g (putT t k x) ∧ Touch g w w' := by
  have lk := hk.len
  have lx := hx.len
  unfold putE putT
  rw [lk, lx]
  by_cases hn : n ≤ 32
  · by_cases h0 : 0 < nx
    · by_cases h2 : nx ≤ 256
      · rw [if_pos hn, if_pos ⟨h0, h2⟩, if_pos ⟨hn, h0, h2⟩]
        obtain ⟨⟨v, h1, h2'⟩, h3⟩ := h
        exact tput_ok h1 h2' h3 hk hn hx h2 h0 hK
      · rw [if_pos hn, if_neg (fun q => h2 q.2), if_neg (fun q => h2 q.2.2)]
        exact (tput_vf hk hx hn (by omega)).mono (fun e w' ⟨u, e1, e2, e3⟩ => ⟨u, e1, e2, h.go e3, Touch.of_below e3⟩)
    · rw [if_pos hn, if_neg (fun q => h0 q.1), if_neg (fun q => h0 q.2.1)]
      exact (tput_v0 hk hx hn (by omega)).mono (fun e w' ⟨u, e1, e2, e3⟩ => ⟨u, e1, e2, h.go e3, Touch.of_below e3⟩)
  · rw [if_neg hn, if_neg (fun q => hn q.1)]
    exact (tput_k hk hx (by omega)).mono (fun e w' ⟨u, e1, e2, e3⟩ => ⟨u, e1, e2, h.go e3, Touch.of_below e3⟩)
theorem tdel_any {K : Nat → Prop} {w : World} {g : Nat} {t : Tr} {a : Option Addr} {n c : Nat} {k : List Int} (h : Tri K w g t) (hk : Sk K w a n c k) (hK : ∀ b, w.heap.size ≤ b → K b) :
    Calls Try.prog 6 #[.pointer (some ⟨g, 0, none⟩), .slice a n c] w fun e w' => ∃ u, e = .returned u ∧ (∃ b z, u = .tuple #[.bool b, .int .i64 z]) ∧ Tri K w' g (delT t k) ∧ Touch g w w' := by
  have lk := hk.len
  unfold delT
  rw [lk]
  by_cases hn : n ≤ 32
  · by_cases hg : Tr.get t (Ni.nib k) = []
    · rw [if_neg (fun q => q.2 hg)]
      have h' := h
      obtain ⟨⟨v, h1, h2⟩, h3⟩ := h'
      exact (delete_none h1 h2 h3 hk hn hK hg).mono (fun e w' ⟨u, e1, e2, e3⟩ => ⟨u, e1, ⟨_, _, e2⟩, h.go e3, Touch.of_below e3⟩)
    · rw [if_pos ⟨hn, hg⟩]
      obtain ⟨⟨v, h1, h2⟩, h3⟩ := h
      exact (delete_some h1 h2 h3 hk hn hK hg).mono (fun e w' ⟨u, e1, e2, e3, e4⟩ => ⟨u, e1, ⟨_, _, e2⟩, e3, e4⟩)
  · rw [if_neg (fun q => hn q.1)]
    exact (delete_k hk (by omega)).mono (fun e w' ⟨u, e1, e2, e3⟩ => ⟨u, e1, ⟨_, _, e2⟩, h.go e3, Touch.of_below e3⟩)
set_option maxHeartbeats 2000000 in
theorem root_no {w : World} {g : Nat} (hr : Rw g w #[.nilIface] 45) :
    Calls Try.prog 9 #[.pointer (some ⟨g, 0, none⟩)] w fun e w' => ∃ u, e = .returned u ∧ (fun u w' => u = .agg (B8 (dref [128])) ∧ Bl w w') u w' := by
  have hB := Bl.refl w
  have hdl := dref_len [128]
  obtain ⟨ds, hds⟩ : ∃ ds, dref [128] = ds := ⟨_, rfl⟩
  rw [hds] at hdl ⊢
  refine cw_enter Try.func9 rfl 16 rfl ?_
  show CW _ _ _ _ _ _ _ [(0, .pointer (some ⟨g, 0, none⟩))] _
  refine cw_seq ?_
  refine cw_region ?_
  refine rw_new 2 (B8 z32) 38 (fun _ => by kernel_rfl) (fun _ => by kernel_rfl) ?_
  intro w1 g2 hn3
  replace hB := hB.go hn3.below
  replace hr := hr.go hn3.below
  have hr4 : Rw g2 w1 (B8 z32) 38 := hn3.row
  have hgd := hn3.hg
  refine rw_nil ?_
  refine nw_then ?_
  refine cw_seq ?_
  refine cw_seq ?_
  refine cw_region ?_
  refine rw_p 3 (.pointer (some ⟨g, 0, none⟩)) (fun _ => by kernel_rfl) (fun _ => by kernel_rfl) ?_
  refine rw_p 4 (.pointer (some ⟨g, 0, none⟩)) (fun _ => by kernel_rfl) (fun _ => by kernel_rfl) ?_
  refine rw_p 5 (.pointer (some ⟨g, 0, none⟩)) (fun _ => by kernel_rfl) (fun _ => by kernel_rfl) ?_
  refine rw_p 6 (.nilIface) (fun _ => by kernel_rfl) (fun _ => ol_cell 42 _ ⟨g, 0, none⟩ _ _ rfl (by kernel_rfl) (by rw [cell_of_row _ _ _ _ _ _ hr]; rfl) Try.underlying42 rfl) ?_
  refine rw_p 7 (.bool true) (fun _ => by kernel_rfl) (fun _ => by kernel_rfl) ?_
  refine rw_nil ?_
  refine nw_then ?_
  refine cw_cond_t (fun _ => by kernel_rfl) ?_
  refine cw_seq ?_
  refine cw_region ?_
  refine rw_call 8 17 #[] (fun _ => by kernel_rfl) (fun _ => by kernel_rfl) (R := fun u w' => u = .agg (B8 ds) ∧ Bl (w1) w') ((emptyRoot_any (w1)).mono (fun e w' h => ⟨_, by rw [h.1, hds], rfl, h.2⟩)) ?_
  rintro _ u5 ⟨rfl, hb6⟩
  replace hB := hB.go hb6
  replace hr := hr.go hb6
  replace hr4 := hr4.go hb6
  refine rw_put g2 (B8 ds) (fun _ => by kernel_rfl) (fun _ => ol_store 38 _ _ _ _ _ _ rfl (by kernel_rfl) (by kernel_rfl) hr4 (infoD' hdl) (z8_size hdl) (B8_one _)) ?_
  intro uE hpE
  replace hB : Bl w uE := hpE.below hB (by omega) hB.size
  have hrE : Rw g2 uE (B8 ds) 38 := hpE.row hr4
  refine rw_nil ?_
  refine nw_then ?_
  refine cw_ret ?_
  refine nw_ret_then ?_
  exact nw_ret_body (.agg (B8 ds)) (fun _ => results_d Try.results9 _ g2 ds hdl (by kernel_rfl) hrE) ⟨_, rfl, rfl, hB⟩
theorem tdel_a {K : Nat → Prop} {w : World} {g : Nat} {a : Option Addr} {n c : Nat} (h : Tri K w g (put no (Ni.nib [97]) [1])) (hk : Sk K w a n c [97]) (hK : ∀ b, w.heap.size ≤ b → K b) :
    Calls Try.prog 6 #[.pointer (some ⟨g, 0, none⟩), .slice a n c] w fun e w' => ∃ u, e = .returned u ∧ u = .tuple #[.bool true, .int .i64 0] ∧ Tri K w' g no ∧ Touch g w w' := by
  obtain ⟨⟨v, h1, h2⟩, h3⟩ := h
  have hn : n = 1 := hk.len.symm
  exact delete_some h1 h2 h3 hk (by omega) hK (by decide +kernel)
set_option maxHeartbeats 4000000 in
theorem begun_any {K : Nat → Prop} {w : World} (hK : ∀ b, w.heap.size ≤ b → K b) :
    Calls Try.prog 4 #[] w fun e w' => ∃ u, e = .returned u ∧ (fun u w' => (∃ g, u = .tuple #[.pointer (some ⟨g, 0, none⟩), .bool true] ∧ w.heap.size ≤ g ∧ Tri K w' g no) ∧ Bl w w') u w' := by
  have hB := Bl.refl w
  have hdl := dref_len [128]
  obtain ⟨ds, hds⟩ : ∃ ds, dref [128] = ds := ⟨_, rfl⟩
  rw [hds] at hdl
  refine cw_enter Try.func4 rfl 60 rfl ?_
  show CW _ _ _ _ _ _ _ [] _
  refine cw_seq ?_
  refine cw_region ?_
  refine rw_p 0 (.pointer none) (fun _ => by kernel_rfl) (fun _ => by kernel_rfl) ?_
  refine rw_p 1 (.bool false) (fun _ => by kernel_rfl) (fun _ => by kernel_rfl) ?_
  refine rw_nil ?_
  refine nw_then ?_
  refine cw_seq ?_
  refine cw_region ?_
  refine rw_call 9 8 #[] (fun _ => by kernel_rfl) (fun _ => by kernel_rfl) (R := fun u w' => (∃ g, u = .pointer (some ⟨g, 0, none⟩) ∧ (w).heap.size ≤ g ∧ Tri K w' g no) ∧ Bl (w) w') (new_any (K := K)) ?_
  rintro _ u1 ⟨⟨g1, rfl, hg1, hT1⟩, hb2⟩
  have hsz1 := hB.size
  replace hB := hB.go hb2
  refine rw_p 2 (.pointer (some ⟨g1, 0, none⟩)) (fun _ => by kernel_rfl) (fun _ => by kernel_rfl) ?_
  refine rw_nil ?_
  refine nw_then ?_
  refine cw_seq ?_
  refine cw_seq ?_
  refine cw_region ?_
  refine rw_p 10 (.pointer (some ⟨g1, 0, none⟩)) (fun _ => by kernel_rfl) (fun _ => by kernel_rfl) ?_
  refine rw_p 11 (.bool false) (fun _ => by kernel_rfl) (fun _ => by kernel_rfl) ?_
  refine rw_nil ?_
  refine nw_then ?_
  refine cw_cond_f (fun _ => by kernel_rfl) ?_
  refine cw_skip ?_
  refine nw_then ?_
  refine cw_seq ?_
  refine cw_region ?_
  refine rw_p 12 (.pointer (some ⟨g1, 0, none⟩)) (fun _ => by kernel_rfl) (fun _ => by kernel_rfl) ?_
  refine rw_newS 13 #[.int .u8 97] 5 1 (fun _ => by kernel_rfl) (fun _ => by kernel_rfl) ?_
  intro w3 ga4 hn5
  have hszhn5 := hB.size
  obtain ⟨w6, hr7, hb8, hs9⟩ := const_a (x := 97) (by omega) hn5 (K := K) (fun b hb => hK b (Nat.le_trans hszhn5 hb))
  refine rw_v 14 (.slice (some ⟨ga4, 0, none⟩) 1 1) (fun _ => by kernel_rfl) (fun _ => hr7 _ _ _ rfl (by kernel_rfl)) ?_
  replace hB := hB.go hb8
  replace hT1 := hT1.go hb8
  refine rw_newS 15 #[.int .u8 1] 5 1 (fun _ => by kernel_rfl) (fun _ => by kernel_rfl) ?_
  intro w10 g11 hn12
  have hzhn12 := hB.size
  replace hB := hB.go hn12.below
  replace hT1 := hT1.go hn12.below
  replace hs9 := hs9.go hn12.below
  have hs13 : Sk K w10 (some ⟨g11, 0, none⟩) 1 1 [1] := one_sk (by omega) hn12 (fun b hb => hK b (Nat.le_trans hzhn12 hb))
  refine rw_call 16 5 #[.pointer (some ⟨g1, 0, none⟩), .slice (some ⟨ga4, 0, none⟩) 1 1, .slice (some ⟨g11, 0, none⟩) 1 1] (fun _ => by kernel_rfl) (fun _ => by kernel_rfl) (R := fun u w' => u = .int .i64 (putE [97] [1]) ∧ Tri K w' g1 (putT no [97] [1]) ∧ Touch g1 (w10) w') ((tput_any hT1 hs9 hs13 (fun b hb => hK b (Nat.le_trans hB.size hb)))) ?_
  rintro _ u14 ⟨rfl, hTn, hto1⟩
  replace hB : Bl w u14 := hto1.below hB (by omega) hB.size
  replace hs9 := hs9.touch hto1 hT1
  replace hs13 := hs13.touch hto1 hT1
  replace hT1 : Tri K u14 g1 (put no (Ni.nib [97]) [1]) := hTn
  refine rw_p 3 (.int .i64 0) (fun _ => by kernel_rfl) (fun _ => by kernel_rfl) ?_
  refine rw_nil ?_
  refine nw_then ?_
  refine cw_seq ?_
  refine cw_region ?_
  refine rw_p 18 (.pointer (some ⟨g1, 0, none⟩)) (fun _ => by kernel_rfl) (fun _ => by kernel_rfl) ?_
  refine rw_newS 19 #[.int .u8 97] 5 1 (fun _ => by kernel_rfl) (fun _ => by kernel_rfl) ?_
  intro w15 ga16 hn17
  have hszhn17 := hB.size
  obtain ⟨w18, hr19, hb20, hs21⟩ := const_a (x := 97) (by omega) hn17 (K := K) (fun b hb => hK b (Nat.le_trans hszhn17 hb))
  refine rw_v 20 (.slice (some ⟨ga16, 0, none⟩) 1 1) (fun _ => by kernel_rfl) (fun _ => hr19 _ _ _ rfl (by kernel_rfl)) ?_
  replace hB := hB.go hb20
  replace hT1 := hT1.go hb20
  replace hs9 := hs9.go hb20
  replace hs13 := hs13.go hb20
  refine rw_call 21 7 #[.pointer (some ⟨g1, 0, none⟩), .slice (some ⟨ga16, 0, none⟩) 1 1] (fun _ => by kernel_rfl) (fun _ => by kernel_rfl) (R := fun u w' => (∃ a2 n2 c2 b, u = .tuple #[.slice a2 n2 c2, .bool b, .int .i64 0] ∧ b = decide (Tr.get (put no (Ni.nib [97]) [1]) (Ni.nib [97]) ≠ []) ∧ Sk (fun b => (w18).heap.size ≤ b) w' a2 n2 c2 (Tr.get (put no (Ni.nib [97]) [1]) (Ni.nib [97]))) ∧ Bl (w18) w') ((tget_ok hT1 hs21 (by omega) (fun b hb => hK b (Nat.le_trans hB.size hb)))) ?_
  rintro _ u22 ⟨⟨a2, n2, c2, b2, rfl, eb2, hs2⟩, hb23⟩
  obtain rfl : b2 = true := by rw [eb2]; decide +kernel
  replace hs2 : Sk (fun b => (w18).heap.size ≤ b) u22 a2 n2 c2 [1] := hs2
  replace hB := hB.go hb23
  replace hT1 := hT1.go hb23
  replace hs9 := hs9.go hb23
  replace hs13 := hs13.go hb23
  replace hs21 := hs21.go hb23
  refine rw_p 17 (.tuple #[.slice a2 n2 c2, .bool true, .int .i64 0]) (fun _ => by kernel_rfl) (fun _ => by kernel_rfl) ?_
  refine rw_p 22 (.slice a2 n2 c2) (fun _ => by kernel_rfl) (fun _ => by kernel_rfl) ?_
  refine rw_p 23 (.bool true) (fun _ => by kernel_rfl) (fun _ => by kernel_rfl) ?_
  refine rw_p 24 (.int .i64 0) (fun _ => by kernel_rfl) (fun _ => by kernel_rfl) ?_
  refine rw_p 4 (.slice a2 n2 c2) (fun _ => by kernel_rfl) (fun _ => by kernel_rfl) ?_
  refine rw_p 5 (.bool true) (fun _ => by kernel_rfl) (fun _ => by kernel_rfl) ?_
  refine rw_p 6 (.int .i64 0) (fun _ => by kernel_rfl) (fun _ => by kernel_rfl) ?_
  refine rw_nil ?_
  refine nw_then ?_
  refine cw_seq ?_
  refine cw_region ?_
  refine rw_p 26 (.pointer (some ⟨g1, 0, none⟩)) (fun _ => by kernel_rfl) (fun _ => by kernel_rfl) ?_
  refine rw_newS 27 #[.int .u8 97] 5 1 (fun _ => by kernel_rfl) (fun _ => by kernel_rfl) ?_
  intro w24 ga25 hn26
  have hszhn26 := hB.size
  obtain ⟨w27, hr28, hb29, hs30⟩ := const_a (x := 97) (by omega) hn26 (K := K) (fun b hb => hK b (Nat.le_trans hszhn26 hb))
  refine rw_v 28 (.slice (some ⟨ga25, 0, none⟩) 1 1) (fun _ => by kernel_rfl) (fun _ => hr28 _ _ _ rfl (by kernel_rfl)) ?_
  replace hB := hB.go hb29
  replace hT1 := hT1.go hb29
  replace hs9 := hs9.go hb29
  replace hs13 := hs13.go hb29
  replace hs21 := hs21.go hb29
  replace hs2 := hs2.go hb29
  refine rw_call 29 6 #[.pointer (some ⟨g1, 0, none⟩), .slice (some ⟨ga25, 0, none⟩) 1 1] (fun _ => by kernel_rfl) (fun _ => by kernel_rfl) (R := fun u w' => u = .tuple #[.bool true, .int .i64 0] ∧ Tri K w' g1 no ∧ Touch g1 (w27) w') ((tdel_a hT1 hs30 (fun b hb => hK b (Nat.le_trans hB.size hb)))) ?_
  rintro _ u31 ⟨rfl, hTn, hto2⟩
  replace hB : Bl w u31 := hto2.below hB (by omega) hB.size
  replace hs9 := hs9.touch hto2 hT1
  replace hs13 := hs13.touch hto2 hT1
  replace hs21 := hs21.touch hto2 hT1
  replace hs2 := hs2.touch hto2 hT1
  replace hs30 := hs30.touch hto2 hT1
  replace hT1 := hTn
  refine rw_p 25 (.tuple #[.bool true, .int .i64 0]) (fun _ => by kernel_rfl) (fun _ => by kernel_rfl) ?_
  refine rw_p 30 (.bool true) (fun _ => by kernel_rfl) (fun _ => by kernel_rfl) ?_
  refine rw_p 31 (.int .i64 0) (fun _ => by kernel_rfl) (fun _ => by kernel_rfl) ?_
  refine rw_p 7 (.bool true) (fun _ => by kernel_rfl) (fun _ => by kernel_rfl) ?_
  refine rw_p 8 (.int .i64 0) (fun _ => by kernel_rfl) (fun _ => by kernel_rfl) ?_
  refine rw_nil ?_
  refine nw_then ?_
  refine cw_seq ?_
  have hS : Sk (fun _ => True) u31 a2 n2 c2 [1] := hs2.mono (fun _ _ => trivial)
  refine cw_draw (fun v => Sk (fun _ => True) v a2 n2 c2 [1]) (by kernel_rfl) (hS.drew) ?_
  replace hB := hB.drew
  replace hT1 := hT1.drew
  replace hs9 := hs9.drew
  replace hs13 := hs13.drew
  replace hs21 := hs21.drew
  replace hs2 := hs2.drew
  replace hs30 := hs30.drew
  replace hS := hS.drew
  refine dw_take 1 33 (.int .i64 0) rfl (by kernel_rfl) (fun _ _ _ h => h) (fun _ => by kernel_rfl) (fun v hv _ => by kernel_rfl) hS ?_
  refine dw_take 2 34 (.bool true) rfl (by kernel_rfl) (fun _ _ _ h => h) (fun _ => by kernel_rfl) (fun v hv _ => by kernel_rfl) hS ?_
  refine dw_ready [0] (by kernel_rfl) (by simp) ?_
  refine ar_call 0 32 8 #[] rfl (fun _ => by kernel_rfl) (fun _ => by kernel_rfl) (R := fun u w' => (∃ g, u = .pointer (some ⟨g, 0, none⟩) ∧ (u31.drew).heap.size ≤ g ∧ Tri K w' g no) ∧ Bl (u31.drew) w') (new_any (K := K)) (fun u w' h => hS.go h.2) ?_ ar_nil
  rintro _ u32 ⟨⟨g2, rfl, hg2, hT2⟩, hb33⟩
  have hsz2 := hB.size
  replace hB := hB.go hb33
  replace hT1 := hT1.go hb33
  replace hs9 := hs9.go hb33
  replace hs13 := hs13.go hb33
  replace hs21 := hs21.go hb33
  replace hs2 := hs2.go hb33
  replace hs30 := hs30.go hb33
  replace hS := hS.go hb33
  refine dw_take 3 35 (.bool true) rfl (by kernel_rfl) (fun _ _ _ h => h) (fun _ => by kernel_rfl) (fun v hv _ => by kernel_rfl) hS ?_
  refine dw_take 4 36 (.bool true) rfl (by kernel_rfl) (fun _ _ _ h => h) (fun _ => by kernel_rfl) (fun v hv _ => by kernel_rfl) hS ?_
  refine dw_take 5 37 (.bool true) rfl (by kernel_rfl) (fun _ _ _ h => h) (fun _ => by kernel_rfl) (fun v hv _ => by kernel_rfl) hS ?_
  refine dw_take 6 38 (.bool true) rfl (by kernel_rfl) (fun _ _ _ h => h) (fun _ => by kernel_rfl) (fun v hv _ => by kernel_rfl) hS ?_
  refine dw_take 7 39 (.int .i64 0) rfl (by kernel_rfl) (fun _ _ _ h => h) (fun _ => by kernel_rfl) (fun v hv _ => by kernel_rfl) hS ?_
  refine dw_take 8 40 (.bool true) rfl (by kernel_rfl) (fun _ _ _ h => h) (fun _ => by kernel_rfl) (fun v hv _ => by kernel_rfl) hS ?_
  refine dw_take 9 41 (.bool true) rfl (by kernel_rfl) (fun _ _ _ h => h) (fun _ => by kernel_rfl) (fun v hv _ => by kernel_rfl) hS ?_
  refine dw_take 10 42 (.bool true) rfl (by kernel_rfl) (fun _ _ _ h => h) (fun _ => by kernel_rfl) (fun v hv _ => by kernel_rfl) hS ?_
  refine dw_take 11 43 (.slice a2 n2 c2) rfl (by kernel_rfl) (fun _ _ _ h => h) (fun _ => by kernel_rfl) (fun v hv _ => by kernel_rfl) hS ?_
  refine dw_take 12 44 (.string (strOfNums [1])) rfl (by kernel_rfl) (fun _ _ _ h => h) (fun _ => by kernel_rfl) (fun v hv _ => hv.run_str _ _ _ rfl (by kernel_rfl)) hS ?_
  refine dw_take 13 45 (.bool true) rfl (by kernel_rfl) (fun _ _ _ h => h) (fun _ => by kernel_rfl) (fun v hv _ => ol_eqs 9 _ _ _ (strOfNums [1]) ⟨#[1]⟩ rfl (by kernel_rfl) (by kernel_rfl) (by decide +kernel)) hS ?_
  refine dw_take 14 46 (.bool true) rfl (by kernel_rfl) (fun _ _ _ h => h) (fun _ => by kernel_rfl) (fun v hv _ => by kernel_rfl) hS ?_
  refine dw_take 15 47 (.bool true) rfl (by kernel_rfl) (fun _ _ _ h => h) (fun _ => by kernel_rfl) (fun v hv _ => by kernel_rfl) hS ?_
  refine dw_take 16 48 (.bool true) rfl (by kernel_rfl) (fun _ _ _ h => h) (fun _ => by kernel_rfl) (fun v hv _ => by kernel_rfl) hS ?_
  refine dw_take 17 49 (.bool true) rfl (by kernel_rfl) (fun _ _ _ h => h) (fun _ => by kernel_rfl) (fun v hv _ => by kernel_rfl) hS ?_
  refine dw_take 18 50 (.bool true) rfl (by kernel_rfl) (fun _ _ _ h => h) (fun _ => by kernel_rfl) (fun v hv _ => by kernel_rfl) hS ?_
  refine dw_take 19 51 (.int .i64 0) rfl (by kernel_rfl) (fun _ _ _ h => h) (fun _ => by kernel_rfl) (fun v hv _ => by kernel_rfl) hS ?_
  refine dw_take 20 52 (.bool true) rfl (by kernel_rfl) (fun _ _ _ h => h) (fun _ => by kernel_rfl) (fun v hv _ => by kernel_rfl) hS ?_
  refine dw_take 21 53 (.bool true) rfl (by kernel_rfl) (fun _ _ _ h => h) (fun _ => by kernel_rfl) (fun v hv _ => by kernel_rfl) hS ?_
  refine dw_take 22 54 (.bool true) rfl (by kernel_rfl) (fun _ _ _ h => h) (fun _ => by kernel_rfl) (fun v hv _ => by kernel_rfl) hS ?_
  refine dw_take 23 55 (.pointer (some ⟨g1, 0, none⟩)) rfl (by kernel_rfl) (fun _ _ _ h => h) (fun _ => by kernel_rfl) (fun v hv _ => by kernel_rfl) hS ?_
  refine dw_ready [24] (by kernel_rfl) (by simp) ?_
  refine ar_call 24 56 9 #[.pointer (some ⟨g1, 0, none⟩)] rfl (fun _ => by kernel_rfl) (fun _ => by kernel_rfl) (R := fun u w' => u = .agg (B8 ds) ∧ Bl (u32) w') ((by obtain ⟨⟨vT, hrT, htT⟩, _⟩ := hT1; rw [show vT = .nilIface from htT] at hrT; rw [← hds]; exact root_no hrT)) (fun u w' h => hS.go h.2) ?_ ar_nil
  rintro _ u34 ⟨rfl, hb35⟩
  replace hB := hB.go hb35
  replace hT1 := hT1.go hb35
  replace hs9 := hs9.go hb35
  replace hs13 := hs13.go hb35
  replace hs21 := hs21.go hb35
  replace hs2 := hs2.go hb35
  replace hs30 := hs30.go hb35
  replace hS := hS.go hb35
  replace hT2 := hT2.go hb35
  refine dw_ready [25] (by kernel_rfl) (by simp) ?_
  refine ar_call 25 57 10 #[] rfl (fun _ => by kernel_rfl) (fun _ => by kernel_rfl) (R := fun u w' => u = .agg (B8 ds) ∧ Bl (u34) w') (((remptyRoot_any (u34)).mono (fun e w' h => ⟨_, by rw [h.1, hds], rfl, h.2⟩))) (fun u w' h => hS.go h.2) ?_ ar_nil
  rintro _ u36 ⟨rfl, hb37⟩
  replace hB := hB.go hb37
  replace hT1 := hT1.go hb37
  replace hs9 := hs9.go hb37
  replace hs13 := hs13.go hb37
  replace hs21 := hs21.go hb37
  replace hs2 := hs2.go hb37
  replace hs30 := hs30.go hb37
  replace hS := hS.go hb37
  replace hT2 := hT2.go hb37
  refine dw_take 26 58 (.bool true) rfl (by kernel_rfl) (fun _ _ _ h => h) (fun _ => by kernel_rfl) (fun v hv _ => ol_eqD rfl (by kernel_rfl) (by kernel_rfl) hdl) hS ?_
  refine dw_take 27 59 (.bool true) rfl (by kernel_rfl) (fun _ _ _ h => h) (fun _ => by kernel_rfl) (fun v hv _ => by kernel_rfl) hS ?_
  refine dw_take 28 0 (.pointer (some ⟨g2, 0, none⟩)) rfl (by kernel_rfl) (fun _ _ _ h => h) (fun _ => by kernel_rfl) (fun v hv _ => by kernel_rfl) hS ?_
  refine dw_take 29 1 (.bool true) rfl (by kernel_rfl) (fun _ _ _ h => h) (fun _ => by kernel_rfl) (fun v hv _ => by kernel_rfl) hS ?_
  refine dw_done (by kernel_rfl) ?_
  refine nw_then ?_
  refine cw_ret ?_
  exact nw_ret_body (.tuple #[.pointer (some ⟨g2, 0, none⟩), .bool true]) (fun _ => by kernel_rfl) ⟨_, rfl, ⟨g2, rfl, Nat.le_trans hsz2 hg2, hT2⟩, hB⟩
end Go.Proofs.Ytalhnnjpjaeakaa
/- The statement TrieOther: what is done to one key does not bear on another one's value. -/
namespace Go.Proofs.Ytalhnnjpjaeakaa
open Go.RowKit
open Tr
set_option linter.unusedVariables false
set_option maxRecDepth 100000
/-- A call that is told: its kind, its key, its value, where they lie. -/
structure Opx where
  z : Int
  ka : Option Addr
  kn : Nat
  kc : Nat
  va : Option Addr
  vn : Nat
  vc : Nat
  k : List Int
  x : List Int
def Opx.cells (y : Opx) : Array Value := #[.int .i64 y.z, .slice y.ka y.kn y.kc, .slice y.va y.vn y.vc]
def An : Nat → Prop := fun _ => True
structure OAt (w : World) (a : Option Addr) (n : Nat) (xs : List Opx) : Prop where
  len : xs.length = n
  row : ∀ j y, xs[j]? = some y → ∃ g off, a = some ⟨g, off, none⟩ ∧ w.rangeAt g (off + j * 3) y.cells.toList
  k : ∀ y ∈ xs, Ag w y.ka y.kn y.kc y.k
  x : ∀ y ∈ xs, Ag w y.va y.vn y.vc y.x
theorem Ag.an {w : World} {a : Option Addr} {n c : Nat} {bs : List Int} (h : Ag w a n c bs) : Sk An w a n c bs := ⟨h, fun _ _ _ => trivial⟩
theorem rng_go {w w' : World} {g off : Nat} {cs : List Value} (h : w.rangeAt g off cs) (hb : Bl w w') : w'.rangeAt g off cs := fun j v hj => (hb.cell (p := ⟨g, off + j, none⟩) (block_lt_of_cell (h j v hj))).trans (h j v hj)
theorem nib_ne {a b : List Int} (h : a ≠ b) : Ni.nib a ≠ Ni.nib b := fun e => h (by rw [← Ni.kk_nib a, e, Ni.kk_nib])
theorem oth_put {t : Tr} {k' x' k : List Int} (h : t = no ∨ Tr.Ok 64 t) (hk' : ∀ x ∈ k', 0 ≤ x ∧ x < 256) (hk : ∀ x ∈ k, 0 ≤ x ∧ x < 256) (hne : k' ≠ k) : Tr.get (putT t k' x') (Ni.nib k) = Tr.get t (Ni.nib k) := by
  unfold putT
  split
  · rw [get_put t 64 _ _ _ h (nib_nb hk') (nib_nb hk), if_neg (fun e => nib_ne hne e.symm)]
  · rfl
theorem oth_del {t : Tr} {k' k : List Int} (h : t = no ∨ Tr.Ok 64 t) (hk' : ∀ x ∈ k', 0 ≤ x ∧ x < 256) (hk : ∀ x ∈ k, 0 ≤ x ∧ x < 256) (hne : k' ≠ k) : Tr.get (delT t k') (Ni.nib k) = Tr.get t (Ni.nib k) := by
  unfold delT
  split
  · rename_i hc
    rcases h with h | h
    · rw [h] at hc; exact absurd rfl hc.2
    · rw [get_del t 64 _ _ h (nib_nb hk') (nib_nb hk) hc.2, if_neg (fun e => nib_ne hne e.symm)]
  · rfl
theorem get_put0 {k x : List Int} (hk : ∀ x ∈ k, 0 ≤ x ∧ x < 256) : Tr.get (putT no k x) (Ni.nib k) = if k.length ≤ 32 ∧ 0 < x.length ∧ x.length ≤ 256 then x else [] := by
  unfold putT
  split
  · simp [put, Tr.get]
  · simp [Tr.get]
set_option maxHeartbeats 4000000 in
theorem other_A {w : World} {a : Option Addr} {n c : Nat} {xs : List Opx} (hO : OAt w a n xs) (hn : n ≤ 9223372036854775806) {ak : Option Addr} {nk ck : Nat} {k : List Int} (hk : Sk An w ak nk ck k) {av : Option Addr} {nv cv : Nat} {x : List Int} (hv : Sk An w av nv cv x) (h1 : nk ≤ 32) (h2 : 0 < nv) (h3 : nv ≤ 256) (hE : putE k x = 0) :
    Calls Try.prog 3 #[.slice a n c, .slice ak nk ck, .slice av nv cv] w fun e w' => e = .returned (.bool true) ∧ Below w.heap.size w w' := by
  have hB := Bl.refl w
  have lk := hk.len
  have lv := hv.len
  refine cw_enter Try.func3 rfl 84 rfl ?_
  show CW _ _ _ _ _ _ _ [(0, .slice a n c), (1, .slice ak nk ck), (2, .slice av nv cv)] _
  refine cw_seq ?_
  refine cw_region ?_
  refine rw_p 6 (.bool false) (fun _ => by kernel_rfl) (fun _ => by kernel_rfl) ?_
  refine rw_nil ?_
  refine nw_then ?_
  refine cw_seq ?_
  refine cw_region ?_
  refine rw_call 16 4 #[] (fun _ => by kernel_rfl) (fun _ => by kernel_rfl) (R := fun u w' => (∃ g, u = .tuple #[.pointer (some ⟨g, 0, none⟩), .bool true] ∧ (w).heap.size ≤ g ∧ Tri An w' g no) ∧ Bl (w) w') (begun_any (K := An) (fun _ _ => trivial)) ?_
  rintro _ u1 ⟨⟨g, rfl, hgw, hT⟩, hb2⟩
  replace hB := hB.go hb2
  refine rw_p 15 (.tuple #[.pointer (some ⟨g, 0, none⟩), .bool true]) (fun _ => by kernel_rfl) (fun _ => by kernel_rfl) ?_
  refine rw_p 17 (.pointer (some ⟨g, 0, none⟩)) (fun _ => by kernel_rfl) (fun _ => by kernel_rfl) ?_
  refine rw_p 18 (.bool true) (fun _ => by kernel_rfl) (fun _ => by kernel_rfl) ?_
  refine rw_p 7 (.pointer (some ⟨g, 0, none⟩)) (fun _ => by kernel_rfl) (fun _ => by kernel_rfl) ?_
  refine rw_p 8 (.bool true) (fun _ => by kernel_rfl) (fun _ => by kernel_rfl) ?_
  refine rw_nil ?_
  refine nw_then ?_
  refine cw_seq ?_
  refine cw_seq ?_
  refine cw_region ?_
  refine rw_p 19 (.bool true) (fun _ => by kernel_rfl) (fun _ => by kernel_rfl) ?_
  refine rw_p 20 (.bool false) (fun _ => by kernel_rfl) (fun _ => by kernel_rfl) ?_
  refine rw_p 21 (.bool false) (fun _ => by kernel_rfl) (fun _ => by kernel_rfl) ?_
  refine rw_p 22 (.pointer (some ⟨g, 0, none⟩)) (fun _ => by kernel_rfl) (fun _ => by kernel_rfl) ?_
  refine rw_p 23 (.bool false) (fun _ => by kernel_rfl) (fun _ => by kernel_rfl) ?_
  refine rw_p 24 (.bool false) (fun _ => by kernel_rfl) (fun _ => by kernel_rfl) ?_
  refine rw_nil ?_
  refine nw_then ?_
  refine cw_cond_f (fun _ => by kernel_rfl) ?_
  refine cw_skip ?_
  refine nw_then ?_
  refine cw_seq ?_
  refine cw_region ?_
  refine rw_p 25 (.pointer (some ⟨g, 0, none⟩)) (fun _ => by kernel_rfl) (fun _ => by kernel_rfl) ?_
  refine rw_p 26 (.slice ak nk ck) (fun _ => by kernel_rfl) (fun _ => by kernel_rfl) ?_
  refine rw_p 27 (.slice av nv cv) (fun _ => by kernel_rfl) (fun _ => by kernel_rfl) ?_
  refine rw_call 28 5 #[.pointer (some ⟨g, 0, none⟩), .slice ak nk ck, .slice av nv cv] (fun _ => by kernel_rfl) (fun _ => by kernel_rfl) (R := fun u w' => u = .int .i64 0 ∧ Tri An w' g (putT no k x) ∧ Touch g (u1) w') (((tput_any hT (hk.go hB) (hv.go hB) (fun _ _ => trivial)).mono (fun e w' ⟨u, e1, e2, e3⟩ => ⟨u, e1, by rw [e2, hE], e3⟩))) ?_
  rintro _ u3 ⟨rfl, hTn, hto⟩
  replace hB : Bl w u3 := hto.below hB hgw hB.size
  have hoks := hT.ok
  replace hT := hTn
  refine rw_p 9 (.int .i64 0) (fun _ => by kernel_rfl) (fun _ => by kernel_rfl) ?_
  refine rw_nil ?_
  refine nw_then ?_
  refine cw_seq ?_
  refine cw_seq ?_
  refine cw_region ?_
  refine rw_p 29 (.slice a n c) (fun _ => by kernel_rfl) (fun _ => by kernel_rfl) ?_
  refine rw_p 30 (.int .i64 n) (fun _ => by kernel_rfl) (fun _ => by kernel_rfl) ?_
  refine rw_p 31 (.int .i64 0) (fun _ => by kernel_rfl) (fun _ => by kernel_rfl) ?_
  refine rw_nil ?_
  refine nw_then ?_
  refine cw_block ?_
  refine cw_loop (X := Nat × Tr) (fun z => [(31, .int .i64 ((z.1 : Nat) : Int)), (29, .slice a n c), (30, .int .i64 n), (1, .slice ak nk ck), (2, .slice av nv cv), (6, .bool false), (7, .pointer (some ⟨g, 0, none⟩)), (9, .int .i64 0)]) (fun z v => Bl w v ∧ Tri An v g z.2 ∧ z.1 ≤ n ∧ Tr.get z.2 (Ni.nib k) = x) (fun z => n - z.1) (0, putT no k x) (by exact ⟨fun _ => by kernel_rfl, ⟨fun _ => by kernel_rfl, ⟨fun _ => by kernel_rfl, ⟨fun _ => by kernel_rfl, ⟨fun _ => by kernel_rfl, ⟨fun _ => by kernel_rfl, ⟨fun _ => by kernel_rfl, ⟨fun _ => by kernel_rfl, trivial⟩⟩⟩⟩⟩⟩⟩⟩) ⟨hB, hT, Nat.zero_le _, by rw [get_put0 hk.ag.b, if_pos ⟨by omega, by omega, by omega⟩]⟩ ?_
  clear hB hT hoks
  rintro ⟨j, t⟩ v ⟨hB, hT, hj, hJ⟩
  simp only at hB hT hj hJ
  show CW _ _ _ _ _ _ _ [(31, .int .i64 ((j : Nat) : Int)), (29, .slice a n c), (30, .int .i64 n), (1, .slice ak nk ck), (2, .slice av nv cv), (6, .bool false), (7, .pointer (some ⟨g, 0, none⟩)), (9, .int .i64 0)] _
  by_cases hlt : j < n
  · skip
    have hjx : j < xs.length := by rw [hO.len]; exact hlt
    obtain ⟨y, hy⟩ : ∃ y, xs[j]? = some y := ⟨_, List.getElem?_eq_getElem hjx⟩
    have hym : y ∈ xs := List.mem_of_getElem? hy
    obtain ⟨gS, oS, ea, hrow⟩ := hO.row j y hy
    subst ea
    have hy1 := (hO.k y hym).an
    have hy2 := (hO.x y hym).an
    refine cw_seq ?_
    refine cw_region ?_
    refine rw_p 32 (.bool true) (fun _ => by kernel_rfl) (fun _ => ol_conv (v := .bool (decide (((j : Nat) : Int) < (n : Int)))) (by kernel_rfl) (congrArg Value.bool (decide_eq_true (by omega)))) ?_
    refine rw_nil ?_
    refine nw_then ?_
    refine cw_seq ?_
    refine cw_cond_t (fun _ => by kernel_rfl) ?_
    refine cw_skip ?_
    refine nw_then ?_
    refine cw_seq ?_
    refine cw_block ?_
    refine cw_seq ?_
    refine cw_region ?_
    refine rw_p 33 (.pointer (some ⟨gS, oS + j * 3, none⟩)) (fun _ => by kernel_rfl) (fun _ => ol_index 22 _ _ gS oS j n c 3 30 rfl (by kernel_rfl) (by kernel_rfl) hlt Try.underlying22 (by kernel_rfl)) ?_
    refine rw_p 34 (.agg #[.int .i64 y.z, .slice y.ka y.kn y.kc, .slice y.va y.vn y.vc]) (fun _ => by kernel_rfl) (fun _ => ol_mid 30 _ gS (oS + j * 3) y.cells.toList _ rfl (by kernel_rfl) (rng_go hrow hB) Try.underlying30 rfl (by kernel_rfl)) ?_
    refine rw_new 11 #[.int .i64 0, .slice none 0 0, .slice none 0 0] 30 (fun _ => by kernel_rfl) (fun _ => by kernel_rfl) ?_
    intro wA gA hnA
    refine rw_put gA #[.int .i64 y.z, .slice y.ka y.kn y.kc, .slice y.va y.vn y.vc] (fun _ => by kernel_rfl) (fun _ => ol_store 30 _ _ _ _ _ _ rfl (by kernel_rfl) (by kernel_rfl) hnA.row (by kernel_rfl) rfl (by kernel_rfl)) ?_
    intro wC hpC
    have hnC := hnA.put hpC
    have hgA := hnC.hg
    have htl := hT.lt
    replace hB := hB.go hnC.below
    replace hT := hT.go hnC.below
    have hrA : Rw gA wC #[.int .i64 y.z, .slice y.ka y.kn y.kc, .slice y.va y.vn y.vc] 30 := hnC.row
    refine rw_nil ?_
    refine nw_then ?_
    refine cw_seq ?_
    refine cw_seq ?_
    refine cw_region ?_
    refine rw_p 35 (.pointer (some ⟨gA, 1, none⟩)) (fun _ => by kernel_rfl) (fun _ => by kernel_rfl) ?_
    refine rw_p 36 (.slice y.ka y.kn y.kc) (fun _ => by kernel_rfl) (fun _ => ol_cell 23 _ ⟨gA, 1, none⟩ _ _ rfl (by kernel_rfl) (by rw [cell_of_row _ _ _ _ _ _ hrA]; rfl) Try.underlying23 rfl) ?_
    refine rw_p 37 (.string (strOfNums y.k)) (fun _ => by kernel_rfl) (fun _ => (hy1.go hB).run_str _ _ _ rfl (by kernel_rfl)) ?_
    refine rw_p 38 (.slice ak nk ck) (fun _ => by kernel_rfl) (fun _ => by kernel_rfl) ?_
    refine rw_p 39 (.string (strOfNums k)) (fun _ => by kernel_rfl) (fun _ => (hk.go hB).run_str _ _ _ rfl (by kernel_rfl)) ?_
    refine rw_p 40 (.bool (!decide (y.k = k))) (fun _ => by kernel_rfl) (fun _ => ol_nes 9 _ _ _ _ _ rfl (by kernel_rfl) (by kernel_rfl) (congrArg Bool.not (strs_eq (hy1.go hB).ag.b (hk.go hB).ag.b))) ?_
    refine rw_nil ?_
    refine nw_then ?_
    by_cases hyk : y.k = k
    · skip
      rw [show (!decide (y.k = k)) = false from by simp [hyk]]
      refine cw_cond_f (fun _ => by kernel_rfl) ?_
      refine cw_skip ?_
      refine nw_then ?_
      refine cw_seq ?_
      have hJ' := hJ
      refine cw_region ?_
      refine rw_p 55 (.pointer (some ⟨g, 0, none⟩)) (fun _ => by kernel_rfl) (fun _ => by kernel_rfl) ?_
      refine rw_p 56 (.slice ak nk ck) (fun _ => by kernel_rfl) (fun _ => by kernel_rfl) ?_
      refine rw_call 57 7 #[.pointer (some ⟨g, 0, none⟩), .slice ak nk ck] (fun _ => by kernel_rfl) (fun _ => by kernel_rfl) (R := fun u w' => (∃ a2 n2 c2 b, u = .tuple #[.slice a2 n2 c2, .bool b, .int .i64 0] ∧ b = decide (Tr.get (t) (Ni.nib k) ≠ []) ∧ Sk (fun b => (wC).heap.size ≤ b) w' a2 n2 c2 (Tr.get (t) (Ni.nib k))) ∧ Bl (wC) w') ((tget_ok hT (hk.go hB) (by omega) (fun _ _ => trivial))) ?_
      rintro _ u4 ⟨⟨a2, n2, c2, b2, rfl, eb2, hs2⟩, hb5⟩
      rw [hJ'] at eb2 hs2
      obtain rfl : b2 = true := by rw [eb2]; exact decide_eq_true (by intro e; rw [e, List.length_nil] at lv; omega)
      replace hB := hB.go hb5
      replace hT := hT.go hb5
      replace hrA := hrA.go hb5
      refine rw_p 54 (.tuple #[.slice a2 n2 c2, .bool true, .int .i64 0]) (fun _ => by kernel_rfl) (fun _ => by kernel_rfl) ?_
      refine rw_p 58 (.slice a2 n2 c2) (fun _ => by kernel_rfl) (fun _ => by kernel_rfl) ?_
      refine rw_p 59 (.bool true) (fun _ => by kernel_rfl) (fun _ => by kernel_rfl) ?_
      refine rw_p 60 (.int .i64 0) (fun _ => by kernel_rfl) (fun _ => by kernel_rfl) ?_
      refine rw_p 12 (.slice a2 n2 c2) (fun _ => by kernel_rfl) (fun _ => by kernel_rfl) ?_
      refine rw_p 13 (.bool true) (fun _ => by kernel_rfl) (fun _ => by kernel_rfl) ?_
      refine rw_p 14 (.int .i64 0) (fun _ => by kernel_rfl) (fun _ => by kernel_rfl) ?_
      refine rw_nil ?_
      refine nw_then ?_
      refine cw_seq ?_
      refine cw_region ?_
      refine rw_p 61 (.bool true) (fun _ => by kernel_rfl) (fun _ => by kernel_rfl) ?_
      refine rw_p 62 (.int .i64 0) (fun _ => by kernel_rfl) (fun _ => by kernel_rfl) ?_
      refine rw_p 63 (.bool true) (fun _ => by kernel_rfl) (fun _ => by kernel_rfl) ?_
      refine rw_p 64 (.bool false) (fun _ => by kernel_rfl) (fun _ => by kernel_rfl) ?_
      refine rw_p 65 (.bool false) (fun _ => by kernel_rfl) (fun _ => by kernel_rfl) ?_
      refine rw_p 66 (.bool true) (fun _ => by kernel_rfl) (fun _ => by kernel_rfl) ?_
      refine rw_p 67 (.bool true) (fun _ => by kernel_rfl) (fun _ => by kernel_rfl) ?_
      refine rw_p 68 (.slice a2 n2 c2) (fun _ => by kernel_rfl) (fun _ => by kernel_rfl) ?_
      refine rw_p 69 (.string (strOfNums x)) (fun _ => by kernel_rfl) (fun _ => hs2.run_str _ _ _ rfl (by kernel_rfl)) ?_
      refine rw_p 70 (.slice av nv cv) (fun _ => by kernel_rfl) (fun _ => by kernel_rfl) ?_
      refine rw_p 71 (.string (strOfNums x)) (fun _ => by kernel_rfl) (fun _ => (hv.go hB).run_str _ _ _ rfl (by kernel_rfl)) ?_
      refine rw_p 72 (.bool false) (fun _ => by kernel_rfl) (fun _ => ol_nes 9 _ _ _ (strOfNums x) (strOfNums x) rfl (by kernel_rfl) (by kernel_rfl) (by simp)) ?_
      refine rw_p 73 (.bool false) (fun _ => by kernel_rfl) (fun _ => by kernel_rfl) ?_
      refine rw_p 74 (.bool false) (fun _ => by kernel_rfl) (fun _ => by kernel_rfl) ?_
      refine rw_p 75 (.bool false) (fun _ => by kernel_rfl) (fun _ => by kernel_rfl) ?_
      refine rw_p 76 (.slice ak nk ck) (fun _ => by kernel_rfl) (fun _ => by kernel_rfl) ?_
      refine rw_p 77 (.int .i64 nk) (fun _ => by kernel_rfl) (fun _ => by kernel_rfl) ?_
      refine rw_p 78 (.bool true) (fun _ => by kernel_rfl) (fun _ => ol_conv (v := .bool (decide ((nk : Int) ≤ (32 : Int)))) (by kernel_rfl) (congrArg Value.bool (decide_eq_true (by omega)))) ?_
      refine rw_p 79 (.int .i64 0) (fun _ => by kernel_rfl) (fun _ => by kernel_rfl) ?_
      refine rw_p 80 (.bool true) (fun _ => by kernel_rfl) (fun _ => by kernel_rfl) ?_
      refine rw_p 81 (.bool false) (fun _ => by kernel_rfl) (fun _ => by kernel_rfl) ?_
      refine rw_p 82 (.bool false) (fun _ => by kernel_rfl) (fun _ => by kernel_rfl) ?_
      refine rw_nil ?_
      refine nw_then ?_
      refine cw_cond_f (fun _ => by kernel_rfl) ?_
      refine cw_skip ?_
      refine nw_block ?_
      refine nw_then ?_
      refine cw_region ?_
      refine rw_p 83 (.int .i64 (((j : Nat) : Int) + 1)) (fun _ => by kernel_rfl) (fun _ => ol_conv (v := .int .i64 (IntKind.i64.wrap (((j : Nat) : Int) + 1))) (by kernel_rfl) (congrArg (Value.int .i64) (wrap64 (by omega) (by omega)))) ?_
      refine rw_p 31 (.int .i64 (((j : Nat) : Int) + 1)) (fun _ => by kernel_rfl) (fun _ => by kernel_rfl) ?_
      refine rw_nil ?_
      exact nw_round (E := fun z => [(31, .int .i64 ((z.1 : Nat) : Int)), (29, .slice (some ⟨gS, oS, none⟩) n c), (30, .int .i64 n), (1, .slice ak nk ck), (2, .slice av nv cv), (6, .bool false), (7, .pointer (some ⟨g, 0, none⟩)), (9, .int .i64 0)]) (R := fun z v => Bl w v ∧ Tri An v g z.2 ∧ z.1 ≤ n ∧ Tr.get z.2 (Ni.nib k) = x) (μ := fun z => n - z.1) (x := (j, t)) (j + 1, t) (by exact ⟨fun _ => by kernel_rfl, ⟨fun _ => by kernel_rfl, ⟨fun _ => by kernel_rfl, ⟨fun _ => by kernel_rfl, ⟨fun _ => by kernel_rfl, ⟨fun _ => by kernel_rfl, ⟨fun _ => by kernel_rfl, ⟨fun _ => by kernel_rfl, trivial⟩⟩⟩⟩⟩⟩⟩⟩) ⟨hB, hT, by omega, hJ'⟩ (by show n - (j + 1) < n - j; omega)
    · skip
      rw [show (!decide (y.k = k)) = true from by simp [hyk]]
      refine cw_cond_t (fun _ => by kernel_rfl) ?_
      refine cw_seq ?_
      refine cw_region ?_
      refine rw_p 41 (.pointer (some ⟨gA, 0, none⟩)) (fun _ => by kernel_rfl) (fun _ => by kernel_rfl) ?_
      refine rw_p 42 (.int .i64 y.z) (fun _ => by kernel_rfl) (fun _ => ol_cell 3 _ ⟨gA, 0, none⟩ _ _ rfl (by kernel_rfl) (by rw [cell_of_row _ _ _ _ _ _ hrA]; rfl) Try.underlying3 rfl) ?_
      refine rw_p 43 (.bool ((y.z : Int) == (1 : Int))) (fun _ => by kernel_rfl) (fun _ => by kernel_rfl) ?_
      refine rw_nil ?_
      refine nw_then ?_
      cases hz1 : ((y.z : Int) == (1 : Int)) with
      | true =>
        refine cw_cond_t (fun _ => by kernel_rfl) ?_
        refine cw_region ?_
        refine rw_p 44 (.pointer (some ⟨g, 0, none⟩)) (fun _ => by kernel_rfl) (fun _ => by kernel_rfl) ?_
        refine rw_p 45 (.pointer (some ⟨gA, 1, none⟩)) (fun _ => by kernel_rfl) (fun _ => by kernel_rfl) ?_
        refine rw_p 46 (.slice y.ka y.kn y.kc) (fun _ => by kernel_rfl) (fun _ => ol_cell 23 _ ⟨gA, 1, none⟩ _ _ rfl (by kernel_rfl) (by rw [cell_of_row _ _ _ _ _ _ hrA]; rfl) Try.underlying23 rfl) ?_
        refine rw_call 47 6 #[.pointer (some ⟨g, 0, none⟩), .slice y.ka y.kn y.kc] (fun _ => by kernel_rfl) (fun _ => by kernel_rfl) (R := fun u w' => (∃ b z, u = .tuple #[.bool b, .int .i64 z]) ∧ Tri An w' g (delT t y.k) ∧ Touch g (wC) w') ((tdel_any hT (hy1.go hB) (fun _ _ => trivial))) ?_
        rintro _ u6 ⟨⟨bD, zD, rfl⟩, hTn, hto⟩
        replace hB : Bl w u6 := hto.below hB hgw hB.size
        replace hrA := hrA.touch hto (by have := hT.lt; omega)
        have hoks := hT.ok
        replace hT := hTn
        refine rw_nil ?_
        refine nw_then ?_
        refine cw_seq ?_
        have hJ' : Tr.get (delT t y.k) (Ni.nib k) = x := (oth_del hoks hy1.ag.b hk.ag.b hyk).trans hJ
        refine cw_region ?_
        refine rw_p 55 (.pointer (some ⟨g, 0, none⟩)) (fun _ => by kernel_rfl) (fun _ => by kernel_rfl) ?_
        refine rw_p 56 (.slice ak nk ck) (fun _ => by kernel_rfl) (fun _ => by kernel_rfl) ?_
        refine rw_call 57 7 #[.pointer (some ⟨g, 0, none⟩), .slice ak nk ck] (fun _ => by kernel_rfl) (fun _ => by kernel_rfl) (R := fun u w' => (∃ a2 n2 c2 b, u = .tuple #[.slice a2 n2 c2, .bool b, .int .i64 0] ∧ b = decide (Tr.get (delT t y.k) (Ni.nib k) ≠ []) ∧ Sk (fun b => (u6).heap.size ≤ b) w' a2 n2 c2 (Tr.get (delT t y.k) (Ni.nib k))) ∧ Bl (u6) w') ((tget_ok hT (hk.go hB) (by omega) (fun _ _ => trivial))) ?_
        rintro _ u7 ⟨⟨a2, n2, c2, b2, rfl, eb2, hs2⟩, hb8⟩
        rw [hJ'] at eb2 hs2
        obtain rfl : b2 = true := by rw [eb2]; exact decide_eq_true (by intro e; rw [e, List.length_nil] at lv; omega)
        replace hB := hB.go hb8
        replace hT := hT.go hb8
        replace hrA := hrA.go hb8
        refine rw_p 54 (.tuple #[.slice a2 n2 c2, .bool true, .int .i64 0]) (fun _ => by kernel_rfl) (fun _ => by kernel_rfl) ?_
        refine rw_p 58 (.slice a2 n2 c2) (fun _ => by kernel_rfl) (fun _ => by kernel_rfl) ?_
        refine rw_p 59 (.bool true) (fun _ => by kernel_rfl) (fun _ => by kernel_rfl) ?_
        refine rw_p 60 (.int .i64 0) (fun _ => by kernel_rfl) (fun _ => by kernel_rfl) ?_
        refine rw_p 12 (.slice a2 n2 c2) (fun _ => by kernel_rfl) (fun _ => by kernel_rfl) ?_
        refine rw_p 13 (.bool true) (fun _ => by kernel_rfl) (fun _ => by kernel_rfl) ?_
        refine rw_p 14 (.int .i64 0) (fun _ => by kernel_rfl) (fun _ => by kernel_rfl) ?_
        refine rw_nil ?_
        refine nw_then ?_
        refine cw_seq ?_
        refine cw_region ?_
        refine rw_p 61 (.bool true) (fun _ => by kernel_rfl) (fun _ => by kernel_rfl) ?_
        refine rw_p 62 (.int .i64 0) (fun _ => by kernel_rfl) (fun _ => by kernel_rfl) ?_
        refine rw_p 63 (.bool true) (fun _ => by kernel_rfl) (fun _ => by kernel_rfl) ?_
        refine rw_p 64 (.bool false) (fun _ => by kernel_rfl) (fun _ => by kernel_rfl) ?_
        refine rw_p 65 (.bool false) (fun _ => by kernel_rfl) (fun _ => by kernel_rfl) ?_
        refine rw_p 66 (.bool true) (fun _ => by kernel_rfl) (fun _ => by kernel_rfl) ?_
        refine rw_p 67 (.bool true) (fun _ => by kernel_rfl) (fun _ => by kernel_rfl) ?_
        refine rw_p 68 (.slice a2 n2 c2) (fun _ => by kernel_rfl) (fun _ => by kernel_rfl) ?_
        refine rw_p 69 (.string (strOfNums x)) (fun _ => by kernel_rfl) (fun _ => hs2.run_str _ _ _ rfl (by kernel_rfl)) ?_
        refine rw_p 70 (.slice av nv cv) (fun _ => by kernel_rfl) (fun _ => by kernel_rfl) ?_
        refine rw_p 71 (.string (strOfNums x)) (fun _ => by kernel_rfl) (fun _ => (hv.go hB).run_str _ _ _ rfl (by kernel_rfl)) ?_
        refine rw_p 72 (.bool false) (fun _ => by kernel_rfl) (fun _ => ol_nes 9 _ _ _ (strOfNums x) (strOfNums x) rfl (by kernel_rfl) (by kernel_rfl) (by simp)) ?_
        refine rw_p 73 (.bool false) (fun _ => by kernel_rfl) (fun _ => by kernel_rfl) ?_
        refine rw_p 74 (.bool false) (fun _ => by kernel_rfl) (fun _ => by kernel_rfl) ?_
        refine rw_p 75 (.bool false) (fun _ => by kernel_rfl) (fun _ => by kernel_rfl) ?_
        refine rw_p 76 (.slice ak nk ck) (fun _ => by kernel_rfl) (fun _ => by kernel_rfl) ?_
        refine rw_p 77 (.int .i64 nk) (fun _ => by kernel_rfl) (fun _ => by kernel_rfl) ?_
        refine rw_p 78 (.bool true) (fun _ => by kernel_rfl) (fun _ => ol_conv (v := .bool (decide ((nk : Int) ≤ (32 : Int)))) (by kernel_rfl) (congrArg Value.bool (decide_eq_true (by omega)))) ?_
        refine rw_p 79 (.int .i64 0) (fun _ => by kernel_rfl) (fun _ => by kernel_rfl) ?_
        refine rw_p 80 (.bool true) (fun _ => by kernel_rfl) (fun _ => by kernel_rfl) ?_
        refine rw_p 81 (.bool false) (fun _ => by kernel_rfl) (fun _ => by kernel_rfl) ?_
        refine rw_p 82 (.bool false) (fun _ => by kernel_rfl) (fun _ => by kernel_rfl) ?_
        refine rw_nil ?_
        refine nw_then ?_
        refine cw_cond_f (fun _ => by kernel_rfl) ?_
        refine cw_skip ?_
        refine nw_block ?_
        refine nw_then ?_
        refine cw_region ?_
        refine rw_p 83 (.int .i64 (((j : Nat) : Int) + 1)) (fun _ => by kernel_rfl) (fun _ => ol_conv (v := .int .i64 (IntKind.i64.wrap (((j : Nat) : Int) + 1))) (by kernel_rfl) (congrArg (Value.int .i64) (wrap64 (by omega) (by omega)))) ?_
        refine rw_p 31 (.int .i64 (((j : Nat) : Int) + 1)) (fun _ => by kernel_rfl) (fun _ => by kernel_rfl) ?_
        refine rw_nil ?_
        exact nw_round (E := fun z => [(31, .int .i64 ((z.1 : Nat) : Int)), (29, .slice (some ⟨gS, oS, none⟩) n c), (30, .int .i64 n), (1, .slice ak nk ck), (2, .slice av nv cv), (6, .bool false), (7, .pointer (some ⟨g, 0, none⟩)), (9, .int .i64 0)]) (R := fun z v => Bl w v ∧ Tri An v g z.2 ∧ z.1 ≤ n ∧ Tr.get z.2 (Ni.nib k) = x) (μ := fun z => n - z.1) (x := (j, t)) (j + 1, delT t y.k) (by exact ⟨fun _ => by kernel_rfl, ⟨fun _ => by kernel_rfl, ⟨fun _ => by kernel_rfl, ⟨fun _ => by kernel_rfl, ⟨fun _ => by kernel_rfl, ⟨fun _ => by kernel_rfl, ⟨fun _ => by kernel_rfl, ⟨fun _ => by kernel_rfl, trivial⟩⟩⟩⟩⟩⟩⟩⟩) ⟨hB, hT, by omega, hJ'⟩ (by show n - (j + 1) < n - j; omega)
      | false =>
        refine cw_cond_f (fun _ => by kernel_rfl) ?_
        refine cw_region ?_
        refine rw_p 48 (.pointer (some ⟨g, 0, none⟩)) (fun _ => by kernel_rfl) (fun _ => by kernel_rfl) ?_
        refine rw_p 49 (.pointer (some ⟨gA, 1, none⟩)) (fun _ => by kernel_rfl) (fun _ => by kernel_rfl) ?_
        refine rw_p 50 (.slice y.ka y.kn y.kc) (fun _ => by kernel_rfl) (fun _ => ol_cell 23 _ ⟨gA, 1, none⟩ _ _ rfl (by kernel_rfl) (by rw [cell_of_row _ _ _ _ _ _ hrA]; rfl) Try.underlying23 rfl) ?_
        refine rw_p 51 (.pointer (some ⟨gA, 2, none⟩)) (fun _ => by kernel_rfl) (fun _ => by kernel_rfl) ?_
        refine rw_p 52 (.slice y.va y.vn y.vc) (fun _ => by kernel_rfl) (fun _ => ol_cell 23 _ ⟨gA, 2, none⟩ _ _ rfl (by kernel_rfl) (by rw [cell_of_row _ _ _ _ _ _ hrA]; rfl) Try.underlying23 rfl) ?_
        refine rw_call 53 5 #[.pointer (some ⟨g, 0, none⟩), .slice y.ka y.kn y.kc, .slice y.va y.vn y.vc] (fun _ => by kernel_rfl) (fun _ => by kernel_rfl) (R := fun u w' => u = .int .i64 (putE y.k y.x) ∧ Tri An w' g (putT t y.k y.x) ∧ Touch g (wC) w') ((tput_any hT (hy1.go hB) (hy2.go hB) (fun _ _ => trivial))) ?_
        rintro _ u9 ⟨rfl, hTn, hto⟩
        replace hB : Bl w u9 := hto.below hB hgw hB.size
        replace hrA := hrA.touch hto (by have := hT.lt; omega)
        have hoks := hT.ok
        replace hT := hTn
        refine rw_nil ?_
        refine nw_then ?_
        refine cw_seq ?_
        have hJ' : Tr.get (putT t y.k y.x) (Ni.nib k) = x := (oth_put hoks hy1.ag.b hk.ag.b hyk).trans hJ
        refine cw_region ?_
        refine rw_p 55 (.pointer (some ⟨g, 0, none⟩)) (fun _ => by kernel_rfl) (fun _ => by kernel_rfl) ?_
        refine rw_p 56 (.slice ak nk ck) (fun _ => by kernel_rfl) (fun _ => by kernel_rfl) ?_
        refine rw_call 57 7 #[.pointer (some ⟨g, 0, none⟩), .slice ak nk ck] (fun _ => by kernel_rfl) (fun _ => by kernel_rfl) (R := fun u w' => (∃ a2 n2 c2 b, u = .tuple #[.slice a2 n2 c2, .bool b, .int .i64 0] ∧ b = decide (Tr.get (putT t y.k y.x) (Ni.nib k) ≠ []) ∧ Sk (fun b => (u9).heap.size ≤ b) w' a2 n2 c2 (Tr.get (putT t y.k y.x) (Ni.nib k))) ∧ Bl (u9) w') ((tget_ok hT (hk.go hB) (by omega) (fun _ _ => trivial))) ?_
        rintro _ u10 ⟨⟨a2, n2, c2, b2, rfl, eb2, hs2⟩, hb11⟩
        rw [hJ'] at eb2 hs2
        obtain rfl : b2 = true := by rw [eb2]; exact decide_eq_true (by intro e; rw [e, List.length_nil] at lv; omega)
        replace hB := hB.go hb11
        replace hT := hT.go hb11
        replace hrA := hrA.go hb11
        refine rw_p 54 (.tuple #[.slice a2 n2 c2, .bool true, .int .i64 0]) (fun _ => by kernel_rfl) (fun _ => by kernel_rfl) ?_
        refine rw_p 58 (.slice a2 n2 c2) (fun _ => by kernel_rfl) (fun _ => by kernel_rfl) ?_
        refine rw_p 59 (.bool true) (fun _ => by kernel_rfl) (fun _ => by kernel_rfl) ?_
        refine rw_p 60 (.int .i64 0) (fun _ => by kernel_rfl) (fun _ => by kernel_rfl) ?_
        refine rw_p 12 (.slice a2 n2 c2) (fun _ => by kernel_rfl) (fun _ => by kernel_rfl) ?_
        refine rw_p 13 (.bool true) (fun _ => by kernel_rfl) (fun _ => by kernel_rfl) ?_
        refine rw_p 14 (.int .i64 0) (fun _ => by kernel_rfl) (fun _ => by kernel_rfl) ?_
        refine rw_nil ?_
        refine nw_then ?_
        refine cw_seq ?_
        refine cw_region ?_
        refine rw_p 61 (.bool true) (fun _ => by kernel_rfl) (fun _ => by kernel_rfl) ?_
        refine rw_p 62 (.int .i64 0) (fun _ => by kernel_rfl) (fun _ => by kernel_rfl) ?_
        refine rw_p 63 (.bool true) (fun _ => by kernel_rfl) (fun _ => by kernel_rfl) ?_
        refine rw_p 64 (.bool false) (fun _ => by kernel_rfl) (fun _ => by kernel_rfl) ?_
        refine rw_p 65 (.bool false) (fun _ => by kernel_rfl) (fun _ => by kernel_rfl) ?_
        refine rw_p 66 (.bool true) (fun _ => by kernel_rfl) (fun _ => by kernel_rfl) ?_
        refine rw_p 67 (.bool true) (fun _ => by kernel_rfl) (fun _ => by kernel_rfl) ?_
        refine rw_p 68 (.slice a2 n2 c2) (fun _ => by kernel_rfl) (fun _ => by kernel_rfl) ?_
        refine rw_p 69 (.string (strOfNums x)) (fun _ => by kernel_rfl) (fun _ => hs2.run_str _ _ _ rfl (by kernel_rfl)) ?_
        refine rw_p 70 (.slice av nv cv) (fun _ => by kernel_rfl) (fun _ => by kernel_rfl) ?_
        refine rw_p 71 (.string (strOfNums x)) (fun _ => by kernel_rfl) (fun _ => (hv.go hB).run_str _ _ _ rfl (by kernel_rfl)) ?_
        refine rw_p 72 (.bool false) (fun _ => by kernel_rfl) (fun _ => ol_nes 9 _ _ _ (strOfNums x) (strOfNums x) rfl (by kernel_rfl) (by kernel_rfl) (by simp)) ?_
        refine rw_p 73 (.bool false) (fun _ => by kernel_rfl) (fun _ => by kernel_rfl) ?_
        refine rw_p 74 (.bool false) (fun _ => by kernel_rfl) (fun _ => by kernel_rfl) ?_
        refine rw_p 75 (.bool false) (fun _ => by kernel_rfl) (fun _ => by kernel_rfl) ?_
        refine rw_p 76 (.slice ak nk ck) (fun _ => by kernel_rfl) (fun _ => by kernel_rfl) ?_
        refine rw_p 77 (.int .i64 nk) (fun _ => by kernel_rfl) (fun _ => by kernel_rfl) ?_
        refine rw_p 78 (.bool true) (fun _ => by kernel_rfl) (fun _ => ol_conv (v := .bool (decide ((nk : Int) ≤ (32 : Int)))) (by kernel_rfl) (congrArg Value.bool (decide_eq_true (by omega)))) ?_
        refine rw_p 79 (.int .i64 0) (fun _ => by kernel_rfl) (fun _ => by kernel_rfl) ?_
        refine rw_p 80 (.bool true) (fun _ => by kernel_rfl) (fun _ => by kernel_rfl) ?_
        refine rw_p 81 (.bool false) (fun _ => by kernel_rfl) (fun _ => by kernel_rfl) ?_
        refine rw_p 82 (.bool false) (fun _ => by kernel_rfl) (fun _ => by kernel_rfl) ?_
        refine rw_nil ?_
        refine nw_then ?_
        refine cw_cond_f (fun _ => by kernel_rfl) ?_
        refine cw_skip ?_
        refine nw_block ?_
        refine nw_then ?_
        refine cw_region ?_
        refine rw_p 83 (.int .i64 (((j : Nat) : Int) + 1)) (fun _ => by kernel_rfl) (fun _ => ol_conv (v := .int .i64 (IntKind.i64.wrap (((j : Nat) : Int) + 1))) (by kernel_rfl) (congrArg (Value.int .i64) (wrap64 (by omega) (by omega)))) ?_
        refine rw_p 31 (.int .i64 (((j : Nat) : Int) + 1)) (fun _ => by kernel_rfl) (fun _ => by kernel_rfl) ?_
        refine rw_nil ?_
        exact nw_round (E := fun z => [(31, .int .i64 ((z.1 : Nat) : Int)), (29, .slice (some ⟨gS, oS, none⟩) n c), (30, .int .i64 n), (1, .slice ak nk ck), (2, .slice av nv cv), (6, .bool false), (7, .pointer (some ⟨g, 0, none⟩)), (9, .int .i64 0)]) (R := fun z v => Bl w v ∧ Tri An v g z.2 ∧ z.1 ≤ n ∧ Tr.get z.2 (Ni.nib k) = x) (μ := fun z => n - z.1) (x := (j, t)) (j + 1, putT t y.k y.x) (by exact ⟨fun _ => by kernel_rfl, ⟨fun _ => by kernel_rfl, ⟨fun _ => by kernel_rfl, ⟨fun _ => by kernel_rfl, ⟨fun _ => by kernel_rfl, ⟨fun _ => by kernel_rfl, ⟨fun _ => by kernel_rfl, ⟨fun _ => by kernel_rfl, trivial⟩⟩⟩⟩⟩⟩⟩⟩) ⟨hB, hT, by omega, hJ'⟩ (by show n - (j + 1) < n - j; omega)
  obtain rfl : j = n := by omega
  show CW _ _ _ _ _ _ _ [(31, .int .i64 ((j : Nat) : Int)), (29, .slice a j c), (30, .int .i64 ((j : Nat) : Int)), (1, .slice ak nk ck), (2, .slice av nv cv), (6, .bool false), (7, .pointer (some ⟨g, 0, none⟩)), (9, .int .i64 0)] _
  refine cw_seq ?_
  refine cw_region ?_
  refine rw_p 32 (.bool false) (fun _ => by kernel_rfl) (fun _ => ol_conv (v := .bool (decide (((j : Nat) : Int) < ((j : Nat) : Int)))) (by kernel_rfl) (congrArg Value.bool (decide_eq_false (by omega)))) ?_
  refine rw_nil ?_
  refine nw_then ?_
  refine cw_seq ?_
  refine cw_cond_f (fun _ => by kernel_rfl) ?_
  refine cw_exit ?_
  refine nw_exit_then ?_
  refine nw_exit_then ?_
  refine nw_exit_here ?_
  refine nw_then ?_
  refine cw_seq ?_
  refine cw_region ?_
  refine rw_p 6 (.bool true) (fun _ => by kernel_rfl) (fun _ => by kernel_rfl) ?_
  refine rw_nil ?_
  refine nw_then ?_
  refine cw_ret ?_
  exact nw_ret_body (.bool true) (fun _ => by kernel_rfl) ⟨rfl, hB⟩
set_option maxHeartbeats 4000000 in
theorem other_B {w : World} {a : Option Addr} {n c : Nat} {xs : List Opx} (hO : OAt w a n xs) (hn : n ≤ 9223372036854775806) {ak : Option Addr} {nk ck : Nat} {k : List Int} (hk : Sk An w ak nk ck k) {av : Option Addr} {nv cv : Nat} {x : List Int} (hv : Sk An w av nv cv x) (h1 : nk ≤ 32) (h2 : ¬ (k.length ≤ 32 ∧ 0 < x.length ∧ x.length ≤ 256)) (hE : putE k x = 71) :
    Calls Try.prog 3 #[.slice a n c, .slice ak nk ck, .slice av nv cv] w fun e w' => e = .returned (.bool true) ∧ Below w.heap.size w w' := by
  have hB := Bl.refl w
  have lk := hk.len
  have lv := hv.len
  refine cw_enter Try.func3 rfl 84 rfl ?_
  show CW _ _ _ _ _ _ _ [(0, .slice a n c), (1, .slice ak nk ck), (2, .slice av nv cv)] _
  refine cw_seq ?_
  refine cw_region ?_
  refine rw_p 6 (.bool false) (fun _ => by kernel_rfl) (fun _ => by kernel_rfl) ?_
  refine rw_nil ?_
  refine nw_then ?_
  refine cw_seq ?_
  refine cw_region ?_
  refine rw_call 16 4 #[] (fun _ => by kernel_rfl) (fun _ => by kernel_rfl) (R := fun u w' => (∃ g, u = .tuple #[.pointer (some ⟨g, 0, none⟩), .bool true] ∧ (w).heap.size ≤ g ∧ Tri An w' g no) ∧ Bl (w) w') (begun_any (K := An) (fun _ _ => trivial)) ?_
  rintro _ u1 ⟨⟨g, rfl, hgw, hT⟩, hb2⟩
  replace hB := hB.go hb2
  refine rw_p 15 (.tuple #[.pointer (some ⟨g, 0, none⟩), .bool true]) (fun _ => by kernel_rfl) (fun _ => by kernel_rfl) ?_
  refine rw_p 17 (.pointer (some ⟨g, 0, none⟩)) (fun _ => by kernel_rfl) (fun _ => by kernel_rfl) ?_
  refine rw_p 18 (.bool true) (fun _ => by kernel_rfl) (fun _ => by kernel_rfl) ?_
  refine rw_p 7 (.pointer (some ⟨g, 0, none⟩)) (fun _ => by kernel_rfl) (fun _ => by kernel_rfl) ?_
  refine rw_p 8 (.bool true) (fun _ => by kernel_rfl) (fun _ => by kernel_rfl) ?_
  refine rw_nil ?_
  refine nw_then ?_
  refine cw_seq ?_
  refine cw_seq ?_
  refine cw_region ?_
  refine rw_p 19 (.bool true) (fun _ => by kernel_rfl) (fun _ => by kernel_rfl) ?_
  refine rw_p 20 (.bool false) (fun _ => by kernel_rfl) (fun _ => by kernel_rfl) ?_
  refine rw_p 21 (.bool false) (fun _ => by kernel_rfl) (fun _ => by kernel_rfl) ?_
  refine rw_p 22 (.pointer (some ⟨g, 0, none⟩)) (fun _ => by kernel_rfl) (fun _ => by kernel_rfl) ?_
  refine rw_p 23 (.bool false) (fun _ => by kernel_rfl) (fun _ => by kernel_rfl) ?_
  refine rw_p 24 (.bool false) (fun _ => by kernel_rfl) (fun _ => by kernel_rfl) ?_
  refine rw_nil ?_
  refine nw_then ?_
  refine cw_cond_f (fun _ => by kernel_rfl) ?_
  refine cw_skip ?_
  refine nw_then ?_
  refine cw_seq ?_
  refine cw_region ?_
  refine rw_p 25 (.pointer (some ⟨g, 0, none⟩)) (fun _ => by kernel_rfl) (fun _ => by kernel_rfl) ?_
  refine rw_p 26 (.slice ak nk ck) (fun _ => by kernel_rfl) (fun _ => by kernel_rfl) ?_
  refine rw_p 27 (.slice av nv cv) (fun _ => by kernel_rfl) (fun _ => by kernel_rfl) ?_
  refine rw_call 28 5 #[.pointer (some ⟨g, 0, none⟩), .slice ak nk ck, .slice av nv cv] (fun _ => by kernel_rfl) (fun _ => by kernel_rfl) (R := fun u w' => u = .int .i64 71 ∧ Tri An w' g (putT no k x) ∧ Touch g (u1) w') (((tput_any hT (hk.go hB) (hv.go hB) (fun _ _ => trivial)).mono (fun e w' ⟨u, e1, e2, e3⟩ => ⟨u, e1, by rw [e2, hE], e3⟩))) ?_
  rintro _ u3 ⟨rfl, hTn, hto⟩
  replace hB : Bl w u3 := hto.below hB hgw hB.size
  have hoks := hT.ok
  replace hT := hTn
  refine rw_p 9 (.int .i64 71) (fun _ => by kernel_rfl) (fun _ => by kernel_rfl) ?_
  refine rw_nil ?_
  refine nw_then ?_
  refine cw_seq ?_
  refine cw_seq ?_
  refine cw_region ?_
  refine rw_p 29 (.slice a n c) (fun _ => by kernel_rfl) (fun _ => by kernel_rfl) ?_
  refine rw_p 30 (.int .i64 n) (fun _ => by kernel_rfl) (fun _ => by kernel_rfl) ?_
  refine rw_p 31 (.int .i64 0) (fun _ => by kernel_rfl) (fun _ => by kernel_rfl) ?_
  refine rw_nil ?_
  refine nw_then ?_
  refine cw_block ?_
  refine cw_loop (X := Nat × Tr) (fun z => [(31, .int .i64 ((z.1 : Nat) : Int)), (29, .slice a n c), (30, .int .i64 n), (1, .slice ak nk ck), (2, .slice av nv cv), (6, .bool false), (7, .pointer (some ⟨g, 0, none⟩)), (9, .int .i64 71)]) (fun z v => Bl w v ∧ Tri An v g z.2 ∧ z.1 ≤ n ∧ Tr.get z.2 (Ni.nib k) = []) (fun z => n - z.1) (0, putT no k x) (by exact ⟨fun _ => by kernel_rfl, ⟨fun _ => by kernel_rfl, ⟨fun _ => by kernel_rfl, ⟨fun _ => by kernel_rfl, ⟨fun _ => by kernel_rfl, ⟨fun _ => by kernel_rfl, ⟨fun _ => by kernel_rfl, ⟨fun _ => by kernel_rfl, trivial⟩⟩⟩⟩⟩⟩⟩⟩) ⟨hB, hT, Nat.zero_le _, by rw [get_put0 hk.ag.b, if_neg (by omega)]⟩ ?_
  clear hB hT hoks
  rintro ⟨j, t⟩ v ⟨hB, hT, hj, hJ⟩
  simp only at hB hT hj hJ
  show CW _ _ _ _ _ _ _ [(31, .int .i64 ((j : Nat) : Int)), (29, .slice a n c), (30, .int .i64 n), (1, .slice ak nk ck), (2, .slice av nv cv), (6, .bool false), (7, .pointer (some ⟨g, 0, none⟩)), (9, .int .i64 71)] _
  by_cases hlt : j < n
  · skip
    have hjx : j < xs.length := by rw [hO.len]; exact hlt
    obtain ⟨y, hy⟩ : ∃ y, xs[j]? = some y := ⟨_, List.getElem?_eq_getElem hjx⟩
    have hym : y ∈ xs := List.mem_of_getElem? hy
    obtain ⟨gS, oS, ea, hrow⟩ := hO.row j y hy
    subst ea
    have hy1 := (hO.k y hym).an
    have hy2 := (hO.x y hym).an
    refine cw_seq ?_
    refine cw_region ?_
    refine rw_p 32 (.bool true) (fun _ => by kernel_rfl) (fun _ => ol_conv (v := .bool (decide (((j : Nat) : Int) < (n : Int)))) (by kernel_rfl) (congrArg Value.bool (decide_eq_true (by omega)))) ?_
    refine rw_nil ?_
    refine nw_then ?_
    refine cw_seq ?_
    refine cw_cond_t (fun _ => by kernel_rfl) ?_
    refine cw_skip ?_
    refine nw_then ?_
    refine cw_seq ?_
    refine cw_block ?_
    refine cw_seq ?_
    refine cw_region ?_
    refine rw_p 33 (.pointer (some ⟨gS, oS + j * 3, none⟩)) (fun _ => by kernel_rfl) (fun _ => ol_index 22 _ _ gS oS j n c 3 30 rfl (by kernel_rfl) (by kernel_rfl) hlt Try.underlying22 (by kernel_rfl)) ?_
    refine rw_p 34 (.agg #[.int .i64 y.z, .slice y.ka y.kn y.kc, .slice y.va y.vn y.vc]) (fun _ => by kernel_rfl) (fun _ => ol_mid 30 _ gS (oS + j * 3) y.cells.toList _ rfl (by kernel_rfl) (rng_go hrow hB) Try.underlying30 rfl (by kernel_rfl)) ?_
    refine rw_new 11 #[.int .i64 0, .slice none 0 0, .slice none 0 0] 30 (fun _ => by kernel_rfl) (fun _ => by kernel_rfl) ?_
    intro wA gA hnA
    refine rw_put gA #[.int .i64 y.z, .slice y.ka y.kn y.kc, .slice y.va y.vn y.vc] (fun _ => by kernel_rfl) (fun _ => ol_store 30 _ _ _ _ _ _ rfl (by kernel_rfl) (by kernel_rfl) hnA.row (by kernel_rfl) rfl (by kernel_rfl)) ?_
    intro wC hpC
    have hnC := hnA.put hpC
    have hgA := hnC.hg
    have htl := hT.lt
    replace hB := hB.go hnC.below
    replace hT := hT.go hnC.below
    have hrA : Rw gA wC #[.int .i64 y.z, .slice y.ka y.kn y.kc, .slice y.va y.vn y.vc] 30 := hnC.row
    refine rw_nil ?_
    refine nw_then ?_
    refine cw_seq ?_
    refine cw_seq ?_
    refine cw_region ?_
    refine rw_p 35 (.pointer (some ⟨gA, 1, none⟩)) (fun _ => by kernel_rfl) (fun _ => by kernel_rfl) ?_
    refine rw_p 36 (.slice y.ka y.kn y.kc) (fun _ => by kernel_rfl) (fun _ => ol_cell 23 _ ⟨gA, 1, none⟩ _ _ rfl (by kernel_rfl) (by rw [cell_of_row _ _ _ _ _ _ hrA]; rfl) Try.underlying23 rfl) ?_
    refine rw_p 37 (.string (strOfNums y.k)) (fun _ => by kernel_rfl) (fun _ => (hy1.go hB).run_str _ _ _ rfl (by kernel_rfl)) ?_
    refine rw_p 38 (.slice ak nk ck) (fun _ => by kernel_rfl) (fun _ => by kernel_rfl) ?_
    refine rw_p 39 (.string (strOfNums k)) (fun _ => by kernel_rfl) (fun _ => (hk.go hB).run_str _ _ _ rfl (by kernel_rfl)) ?_
    refine rw_p 40 (.bool (!decide (y.k = k))) (fun _ => by kernel_rfl) (fun _ => ol_nes 9 _ _ _ _ _ rfl (by kernel_rfl) (by kernel_rfl) (congrArg Bool.not (strs_eq (hy1.go hB).ag.b (hk.go hB).ag.b))) ?_
    refine rw_nil ?_
    refine nw_then ?_
    by_cases hyk : y.k = k
    · skip
      rw [show (!decide (y.k = k)) = false from by simp [hyk]]
      refine cw_cond_f (fun _ => by kernel_rfl) ?_
      refine cw_skip ?_
      refine nw_then ?_
      refine cw_seq ?_
      have hJ' := hJ
      refine cw_region ?_
      refine rw_p 55 (.pointer (some ⟨g, 0, none⟩)) (fun _ => by kernel_rfl) (fun _ => by kernel_rfl) ?_
      refine rw_p 56 (.slice ak nk ck) (fun _ => by kernel_rfl) (fun _ => by kernel_rfl) ?_
      refine rw_call 57 7 #[.pointer (some ⟨g, 0, none⟩), .slice ak nk ck] (fun _ => by kernel_rfl) (fun _ => by kernel_rfl) (R := fun u w' => (∃ a2 n2 c2 b, u = .tuple #[.slice a2 n2 c2, .bool b, .int .i64 0] ∧ b = decide (Tr.get (t) (Ni.nib k) ≠ []) ∧ Sk (fun b => (wC).heap.size ≤ b) w' a2 n2 c2 (Tr.get (t) (Ni.nib k))) ∧ Bl (wC) w') ((tget_ok hT (hk.go hB) (by omega) (fun _ _ => trivial))) ?_
      rintro _ u4 ⟨⟨a2, n2, c2, b2, rfl, eb2, hs2⟩, hb5⟩
      rw [hJ'] at eb2 hs2
      obtain rfl : b2 = false := by rw [eb2]; simp
      replace hB := hB.go hb5
      replace hT := hT.go hb5
      replace hrA := hrA.go hb5
      refine rw_p 54 (.tuple #[.slice a2 n2 c2, .bool false, .int .i64 0]) (fun _ => by kernel_rfl) (fun _ => by kernel_rfl) ?_
      refine rw_p 58 (.slice a2 n2 c2) (fun _ => by kernel_rfl) (fun _ => by kernel_rfl) ?_
      refine rw_p 59 (.bool false) (fun _ => by kernel_rfl) (fun _ => by kernel_rfl) ?_
      refine rw_p 60 (.int .i64 0) (fun _ => by kernel_rfl) (fun _ => by kernel_rfl) ?_
      refine rw_p 12 (.slice a2 n2 c2) (fun _ => by kernel_rfl) (fun _ => by kernel_rfl) ?_
      refine rw_p 13 (.bool false) (fun _ => by kernel_rfl) (fun _ => by kernel_rfl) ?_
      refine rw_p 14 (.int .i64 0) (fun _ => by kernel_rfl) (fun _ => by kernel_rfl) ?_
      refine rw_nil ?_
      refine nw_then ?_
      refine cw_seq ?_
      refine cw_region ?_
      refine rw_p 61 (.bool false) (fun _ => by kernel_rfl) (fun _ => by kernel_rfl) ?_
      refine rw_p 62 (.int .i64 71) (fun _ => by kernel_rfl) (fun _ => by kernel_rfl) ?_
      refine rw_p 63 (.bool false) (fun _ => by kernel_rfl) (fun _ => by kernel_rfl) ?_
      refine rw_p 64 (.bool false) (fun _ => by kernel_rfl) (fun _ => by kernel_rfl) ?_
      refine rw_p 65 (.bool false) (fun _ => by kernel_rfl) (fun _ => by kernel_rfl) ?_
      refine rw_p 66 (.bool false) (fun _ => by kernel_rfl) (fun _ => by kernel_rfl) ?_
      refine rw_p 67 (.bool false) (fun _ => by kernel_rfl) (fun _ => by kernel_rfl) ?_
      refine rw_off 68 (fun _ => by kernel_rfl) ?_
      refine rw_off 69 (fun _ => by kernel_rfl) ?_
      refine rw_off 70 (fun _ => by kernel_rfl) ?_
      refine rw_off 71 (fun _ => by kernel_rfl) ?_
      refine rw_off 72 (fun _ => by kernel_rfl) ?_
      refine rw_p 73 (.bool false) (fun _ => by kernel_rfl) (fun _ => by kernel_rfl) ?_
      refine rw_p 74 (.bool false) (fun _ => by kernel_rfl) (fun _ => by kernel_rfl) ?_
      refine rw_p 75 (.bool false) (fun _ => by kernel_rfl) (fun _ => by kernel_rfl) ?_
      refine rw_p 76 (.slice ak nk ck) (fun _ => by kernel_rfl) (fun _ => by kernel_rfl) ?_
      refine rw_p 77 (.int .i64 nk) (fun _ => by kernel_rfl) (fun _ => by kernel_rfl) ?_
      refine rw_p 78 (.bool true) (fun _ => by kernel_rfl) (fun _ => ol_conv (v := .bool (decide ((nk : Int) ≤ (32 : Int)))) (by kernel_rfl) (congrArg Value.bool (decide_eq_true (by omega)))) ?_
      refine rw_p 79 (.int .i64 0) (fun _ => by kernel_rfl) (fun _ => by kernel_rfl) ?_
      refine rw_p 80 (.bool true) (fun _ => by kernel_rfl) (fun _ => by kernel_rfl) ?_
      refine rw_p 81 (.bool false) (fun _ => by kernel_rfl) (fun _ => by kernel_rfl) ?_
      refine rw_p 82 (.bool false) (fun _ => by kernel_rfl) (fun _ => by kernel_rfl) ?_
      refine rw_nil ?_
      refine nw_then ?_
      refine cw_cond_f (fun _ => by kernel_rfl) ?_
      refine cw_skip ?_
      refine nw_block ?_
      refine nw_then ?_
      refine cw_region ?_
      refine rw_p 83 (.int .i64 (((j : Nat) : Int) + 1)) (fun _ => by kernel_rfl) (fun _ => ol_conv (v := .int .i64 (IntKind.i64.wrap (((j : Nat) : Int) + 1))) (by kernel_rfl) (congrArg (Value.int .i64) (wrap64 (by omega) (by omega)))) ?_
      refine rw_p 31 (.int .i64 (((j : Nat) : Int) + 1)) (fun _ => by kernel_rfl) (fun _ => by kernel_rfl) ?_
      refine rw_nil ?_
      exact nw_round (E := fun z => [(31, .int .i64 ((z.1 : Nat) : Int)), (29, .slice (some ⟨gS, oS, none⟩) n c), (30, .int .i64 n), (1, .slice ak nk ck), (2, .slice av nv cv), (6, .bool false), (7, .pointer (some ⟨g, 0, none⟩)), (9, .int .i64 71)]) (R := fun z v => Bl w v ∧ Tri An v g z.2 ∧ z.1 ≤ n ∧ Tr.get z.2 (Ni.nib k) = []) (μ := fun z => n - z.1) (x := (j, t)) (j + 1, t) (by exact ⟨fun _ => by kernel_rfl, ⟨fun _ => by kernel_rfl, ⟨fun _ => by kernel_rfl, ⟨fun _ => by kernel_rfl, ⟨fun _ => by kernel_rfl, ⟨fun _ => by kernel_rfl, ⟨fun _ => by kernel_rfl, ⟨fun _ => by kernel_rfl, trivial⟩⟩⟩⟩⟩⟩⟩⟩) ⟨hB, hT, by omega, hJ'⟩ (by show n - (j + 1) < n - j; omega)
    · skip
      rw [show (!decide (y.k = k)) = true from by simp [hyk]]
      refine cw_cond_t (fun _ => by kernel_rfl) ?_
      refine cw_seq ?_
      refine cw_region ?_
      refine rw_p 41 (.pointer (some ⟨gA, 0, none⟩)) (fun _ => by kernel_rfl) (fun _ => by kernel_rfl) ?_
      refine rw_p 42 (.int .i64 y.z) (fun _ => by kernel_rfl) (fun _ => ol_cell 3 _ ⟨gA, 0, none⟩ _ _ rfl (by kernel_rfl) (by rw [cell_of_row _ _ _ _ _ _ hrA]; rfl) Try.underlying3 rfl) ?_
      refine rw_p 43 (.bool ((y.z : Int) == (1 : Int))) (fun _ => by kernel_rfl) (fun _ => by kernel_rfl) ?_
      refine rw_nil ?_
      refine nw_then ?_
      cases hz1 : ((y.z : Int) == (1 : Int)) with
      | true =>
        refine cw_cond_t (fun _ => by kernel_rfl) ?_
        refine cw_region ?_
        refine rw_p 44 (.pointer (some ⟨g, 0, none⟩)) (fun _ => by kernel_rfl) (fun _ => by kernel_rfl) ?_
        refine rw_p 45 (.pointer (some ⟨gA, 1, none⟩)) (fun _ => by kernel_rfl) (fun _ => by kernel_rfl) ?_
        refine rw_p 46 (.slice y.ka y.kn y.kc) (fun _ => by kernel_rfl) (fun _ => ol_cell 23 _ ⟨gA, 1, none⟩ _ _ rfl (by kernel_rfl) (by rw [cell_of_row _ _ _ _ _ _ hrA]; rfl) Try.underlying23 rfl) ?_
        refine rw_call 47 6 #[.pointer (some ⟨g, 0, none⟩), .slice y.ka y.kn y.kc] (fun _ => by kernel_rfl) (fun _ => by kernel_rfl) (R := fun u w' => (∃ b z, u = .tuple #[.bool b, .int .i64 z]) ∧ Tri An w' g (delT t y.k) ∧ Touch g (wC) w') ((tdel_any hT (hy1.go hB) (fun _ _ => trivial))) ?_
        rintro _ u6 ⟨⟨bD, zD, rfl⟩, hTn, hto⟩
        replace hB : Bl w u6 := hto.below hB hgw hB.size
        replace hrA := hrA.touch hto (by have := hT.lt; omega)
        have hoks := hT.ok
        replace hT := hTn
        refine rw_nil ?_
        refine nw_then ?_
        refine cw_seq ?_
        have hJ' : Tr.get (delT t y.k) (Ni.nib k) = [] := (oth_del hoks hy1.ag.b hk.ag.b hyk).trans hJ
        refine cw_region ?_
        refine rw_p 55 (.pointer (some ⟨g, 0, none⟩)) (fun _ => by kernel_rfl) (fun _ => by kernel_rfl) ?_
        refine rw_p 56 (.slice ak nk ck) (fun _ => by kernel_rfl) (fun _ => by kernel_rfl) ?_
        refine rw_call 57 7 #[.pointer (some ⟨g, 0, none⟩), .slice ak nk ck] (fun _ => by kernel_rfl) (fun _ => by kernel_rfl) (R := fun u w' => (∃ a2 n2 c2 b, u = .tuple #[.slice a2 n2 c2, .bool b, .int .i64 0] ∧ b = decide (Tr.get (delT t y.k) (Ni.nib k) ≠ []) ∧ Sk (fun b => (u6).heap.size ≤ b) w' a2 n2 c2 (Tr.get (delT t y.k) (Ni.nib k))) ∧ Bl (u6) w') ((tget_ok hT (hk.go hB) (by omega) (fun _ _ => trivial))) ?_
        rintro _ u7 ⟨⟨a2, n2, c2, b2, rfl, eb2, hs2⟩, hb8⟩
        rw [hJ'] at eb2 hs2
        obtain rfl : b2 = false := by rw [eb2]; simp
        replace hB := hB.go hb8
        replace hT := hT.go hb8
        replace hrA := hrA.go hb8
        refine rw_p 54 (.tuple #[.slice a2 n2 c2, .bool false, .int .i64 0]) (fun _ => by kernel_rfl) (fun _ => by kernel_rfl) ?_
        refine rw_p 58 (.slice a2 n2 c2) (fun _ => by kernel_rfl) (fun _ => by kernel_rfl) ?_
        refine rw_p 59 (.bool false) (fun _ => by kernel_rfl) (fun _ => by kernel_rfl) ?_
        refine rw_p 60 (.int .i64 0) (fun _ => by kernel_rfl) (fun _ => by kernel_rfl) ?_
        refine rw_p 12 (.slice a2 n2 c2) (fun _ => by kernel_rfl) (fun _ => by kernel_rfl) ?_
        refine rw_p 13 (.bool false) (fun _ => by kernel_rfl) (fun _ => by kernel_rfl) ?_
        refine rw_p 14 (.int .i64 0) (fun _ => by kernel_rfl) (fun _ => by kernel_rfl) ?_
        refine rw_nil ?_
        refine nw_then ?_
        refine cw_seq ?_
        refine cw_region ?_
        refine rw_p 61 (.bool false) (fun _ => by kernel_rfl) (fun _ => by kernel_rfl) ?_
        refine rw_p 62 (.int .i64 71) (fun _ => by kernel_rfl) (fun _ => by kernel_rfl) ?_
        refine rw_p 63 (.bool false) (fun _ => by kernel_rfl) (fun _ => by kernel_rfl) ?_
        refine rw_p 64 (.bool false) (fun _ => by kernel_rfl) (fun _ => by kernel_rfl) ?_
        refine rw_p 65 (.bool false) (fun _ => by kernel_rfl) (fun _ => by kernel_rfl) ?_
        refine rw_p 66 (.bool false) (fun _ => by kernel_rfl) (fun _ => by kernel_rfl) ?_
        refine rw_p 67 (.bool false) (fun _ => by kernel_rfl) (fun _ => by kernel_rfl) ?_
        refine rw_off 68 (fun _ => by kernel_rfl) ?_
        refine rw_off 69 (fun _ => by kernel_rfl) ?_
        refine rw_off 70 (fun _ => by kernel_rfl) ?_
        refine rw_off 71 (fun _ => by kernel_rfl) ?_
        refine rw_off 72 (fun _ => by kernel_rfl) ?_
        refine rw_p 73 (.bool false) (fun _ => by kernel_rfl) (fun _ => by kernel_rfl) ?_
        refine rw_p 74 (.bool false) (fun _ => by kernel_rfl) (fun _ => by kernel_rfl) ?_
        refine rw_p 75 (.bool false) (fun _ => by kernel_rfl) (fun _ => by kernel_rfl) ?_
        refine rw_p 76 (.slice ak nk ck) (fun _ => by kernel_rfl) (fun _ => by kernel_rfl) ?_
        refine rw_p 77 (.int .i64 nk) (fun _ => by kernel_rfl) (fun _ => by kernel_rfl) ?_
        refine rw_p 78 (.bool true) (fun _ => by kernel_rfl) (fun _ => ol_conv (v := .bool (decide ((nk : Int) ≤ (32 : Int)))) (by kernel_rfl) (congrArg Value.bool (decide_eq_true (by omega)))) ?_
        refine rw_p 79 (.int .i64 0) (fun _ => by kernel_rfl) (fun _ => by kernel_rfl) ?_
        refine rw_p 80 (.bool true) (fun _ => by kernel_rfl) (fun _ => by kernel_rfl) ?_
        refine rw_p 81 (.bool false) (fun _ => by kernel_rfl) (fun _ => by kernel_rfl) ?_
        refine rw_p 82 (.bool false) (fun _ => by kernel_rfl) (fun _ => by kernel_rfl) ?_
        refine rw_nil ?_
        refine nw_then ?_
        refine cw_cond_f (fun _ => by kernel_rfl) ?_
        refine cw_skip ?_
        refine nw_block ?_
        refine nw_then ?_
        refine cw_region ?_
        refine rw_p 83 (.int .i64 (((j : Nat) : Int) + 1)) (fun _ => by kernel_rfl) (fun _ => ol_conv (v := .int .i64 (IntKind.i64.wrap (((j : Nat) : Int) + 1))) (by kernel_rfl) (congrArg (Value.int .i64) (wrap64 (by omega) (by omega)))) ?_
        refine rw_p 31 (.int .i64 (((j : Nat) : Int) + 1)) (fun _ => by kernel_rfl) (fun _ => by kernel_rfl) ?_
        refine rw_nil ?_
        exact nw_round (E := fun z => [(31, .int .i64 ((z.1 : Nat) : Int)), (29, .slice (some ⟨gS, oS, none⟩) n c), (30, .int .i64 n), (1, .slice ak nk ck), (2, .slice av nv cv), (6, .bool false), (7, .pointer (some ⟨g, 0, none⟩)), (9, .int .i64 71)]) (R := fun z v => Bl w v ∧ Tri An v g z.2 ∧ z.1 ≤ n ∧ Tr.get z.2 (Ni.nib k) = []) (μ := fun z => n - z.1) (x := (j, t)) (j + 1, delT t y.k) (by exact ⟨fun _ => by kernel_rfl, ⟨fun _ => by kernel_rfl, ⟨fun _ => by kernel_rfl, ⟨fun _ => by kernel_rfl, ⟨fun _ => by kernel_rfl, ⟨fun _ => by kernel_rfl, ⟨fun _ => by kernel_rfl, ⟨fun _ => by kernel_rfl, trivial⟩⟩⟩⟩⟩⟩⟩⟩) ⟨hB, hT, by omega, hJ'⟩ (by show n - (j + 1) < n - j; omega)
      | false =>
        refine cw_cond_f (fun _ => by kernel_rfl) ?_
        refine cw_region ?_
        refine rw_p 48 (.pointer (some ⟨g, 0, none⟩)) (fun _ => by kernel_rfl) (fun _ => by kernel_rfl) ?_
        refine rw_p 49 (.pointer (some ⟨gA, 1, none⟩)) (fun _ => by kernel_rfl) (fun _ => by kernel_rfl) ?_
        refine rw_p 50 (.slice y.ka y.kn y.kc) (fun _ => by kernel_rfl) (fun _ => ol_cell 23 _ ⟨gA, 1, none⟩ _ _ rfl (by kernel_rfl) (by rw [cell_of_row _ _ _ _ _ _ hrA]; rfl) Try.underlying23 rfl) ?_
        refine rw_p 51 (.pointer (some ⟨gA, 2, none⟩)) (fun _ => by kernel_rfl) (fun _ => by kernel_rfl) ?_
        refine rw_p 52 (.slice y.va y.vn y.vc) (fun _ => by kernel_rfl) (fun _ => ol_cell 23 _ ⟨gA, 2, none⟩ _ _ rfl (by kernel_rfl) (by rw [cell_of_row _ _ _ _ _ _ hrA]; rfl) Try.underlying23 rfl) ?_
        refine rw_call 53 5 #[.pointer (some ⟨g, 0, none⟩), .slice y.ka y.kn y.kc, .slice y.va y.vn y.vc] (fun _ => by kernel_rfl) (fun _ => by kernel_rfl) (R := fun u w' => u = .int .i64 (putE y.k y.x) ∧ Tri An w' g (putT t y.k y.x) ∧ Touch g (wC) w') ((tput_any hT (hy1.go hB) (hy2.go hB) (fun _ _ => trivial))) ?_
        rintro _ u9 ⟨rfl, hTn, hto⟩
        replace hB : Bl w u9 := hto.below hB hgw hB.size
        replace hrA := hrA.touch hto (by have := hT.lt; omega)
        have hoks := hT.ok
        replace hT := hTn
        refine rw_nil ?_
        refine nw_then ?_
        refine cw_seq ?_
        have hJ' : Tr.get (putT t y.k y.x) (Ni.nib k) = [] := (oth_put hoks hy1.ag.b hk.ag.b hyk).trans hJ
        refine cw_region ?_
        refine rw_p 55 (.pointer (some ⟨g, 0, none⟩)) (fun _ => by kernel_rfl) (fun _ => by kernel_rfl) ?_
        refine rw_p 56 (.slice ak nk ck) (fun _ => by kernel_rfl) (fun _ => by kernel_rfl) ?_
        refine rw_call 57 7 #[.pointer (some ⟨g, 0, none⟩), .slice ak nk ck] (fun _ => by kernel_rfl) (fun _ => by kernel_rfl) (R := fun u w' => (∃ a2 n2 c2 b, u = .tuple #[.slice a2 n2 c2, .bool b, .int .i64 0] ∧ b = decide (Tr.get (putT t y.k y.x) (Ni.nib k) ≠ []) ∧ Sk (fun b => (u9).heap.size ≤ b) w' a2 n2 c2 (Tr.get (putT t y.k y.x) (Ni.nib k))) ∧ Bl (u9) w') ((tget_ok hT (hk.go hB) (by omega) (fun _ _ => trivial))) ?_
        rintro _ u10 ⟨⟨a2, n2, c2, b2, rfl, eb2, hs2⟩, hb11⟩
        rw [hJ'] at eb2 hs2
        obtain rfl : b2 = false := by rw [eb2]; simp
        replace hB := hB.go hb11
        replace hT := hT.go hb11
        replace hrA := hrA.go hb11
        refine rw_p 54 (.tuple #[.slice a2 n2 c2, .bool false, .int .i64 0]) (fun _ => by kernel_rfl) (fun _ => by kernel_rfl) ?_
        refine rw_p 58 (.slice a2 n2 c2) (fun _ => by kernel_rfl) (fun _ => by kernel_rfl) ?_
        refine rw_p 59 (.bool false) (fun _ => by kernel_rfl) (fun _ => by kernel_rfl) ?_
        refine rw_p 60 (.int .i64 0) (fun _ => by kernel_rfl) (fun _ => by kernel_rfl) ?_
        refine rw_p 12 (.slice a2 n2 c2) (fun _ => by kernel_rfl) (fun _ => by kernel_rfl) ?_
        refine rw_p 13 (.bool false) (fun _ => by kernel_rfl) (fun _ => by kernel_rfl) ?_
        refine rw_p 14 (.int .i64 0) (fun _ => by kernel_rfl) (fun _ => by kernel_rfl) ?_
        refine rw_nil ?_
        refine nw_then ?_
        refine cw_seq ?_
        refine cw_region ?_
        refine rw_p 61 (.bool false) (fun _ => by kernel_rfl) (fun _ => by kernel_rfl) ?_
        refine rw_p 62 (.int .i64 71) (fun _ => by kernel_rfl) (fun _ => by kernel_rfl) ?_
        refine rw_p 63 (.bool false) (fun _ => by kernel_rfl) (fun _ => by kernel_rfl) ?_
        refine rw_p 64 (.bool false) (fun _ => by kernel_rfl) (fun _ => by kernel_rfl) ?_
        refine rw_p 65 (.bool false) (fun _ => by kernel_rfl) (fun _ => by kernel_rfl) ?_
        refine rw_p 66 (.bool false) (fun _ => by kernel_rfl) (fun _ => by kernel_rfl) ?_
        refine rw_p 67 (.bool false) (fun _ => by kernel_rfl) (fun _ => by kernel_rfl) ?_
        refine rw_off 68 (fun _ => by kernel_rfl) ?_
        refine rw_off 69 (fun _ => by kernel_rfl) ?_
        refine rw_off 70 (fun _ => by kernel_rfl) ?_
        refine rw_off 71 (fun _ => by kernel_rfl) ?_
        refine rw_off 72 (fun _ => by kernel_rfl) ?_
        refine rw_p 73 (.bool false) (fun _ => by kernel_rfl) (fun _ => by kernel_rfl) ?_
        refine rw_p 74 (.bool false) (fun _ => by kernel_rfl) (fun _ => by kernel_rfl) ?_
        refine rw_p 75 (.bool false) (fun _ => by kernel_rfl) (fun _ => by kernel_rfl) ?_
        refine rw_p 76 (.slice ak nk ck) (fun _ => by kernel_rfl) (fun _ => by kernel_rfl) ?_
        refine rw_p 77 (.int .i64 nk) (fun _ => by kernel_rfl) (fun _ => by kernel_rfl) ?_
        refine rw_p 78 (.bool true) (fun _ => by kernel_rfl) (fun _ => ol_conv (v := .bool (decide ((nk : Int) ≤ (32 : Int)))) (by kernel_rfl) (congrArg Value.bool (decide_eq_true (by omega)))) ?_
        refine rw_p 79 (.int .i64 0) (fun _ => by kernel_rfl) (fun _ => by kernel_rfl) ?_
        refine rw_p 80 (.bool true) (fun _ => by kernel_rfl) (fun _ => by kernel_rfl) ?_
        refine rw_p 81 (.bool false) (fun _ => by kernel_rfl) (fun _ => by kernel_rfl) ?_
        refine rw_p 82 (.bool false) (fun _ => by kernel_rfl) (fun _ => by kernel_rfl) ?_
        refine rw_nil ?_
        refine nw_then ?_
        refine cw_cond_f (fun _ => by kernel_rfl) ?_
        refine cw_skip ?_
        refine nw_block ?_
        refine nw_then ?_
        refine cw_region ?_
        refine rw_p 83 (.int .i64 (((j : Nat) : Int) + 1)) (fun _ => by kernel_rfl) (fun _ => ol_conv (v := .int .i64 (IntKind.i64.wrap (((j : Nat) : Int) + 1))) (by kernel_rfl) (congrArg (Value.int .i64) (wrap64 (by omega) (by omega)))) ?_
        refine rw_p 31 (.int .i64 (((j : Nat) : Int) + 1)) (fun _ => by kernel_rfl) (fun _ => by kernel_rfl) ?_
        refine rw_nil ?_
        exact nw_round (E := fun z => [(31, .int .i64 ((z.1 : Nat) : Int)), (29, .slice (some ⟨gS, oS, none⟩) n c), (30, .int .i64 n), (1, .slice ak nk ck), (2, .slice av nv cv), (6, .bool false), (7, .pointer (some ⟨g, 0, none⟩)), (9, .int .i64 71)]) (R := fun z v => Bl w v ∧ Tri An v g z.2 ∧ z.1 ≤ n ∧ Tr.get z.2 (Ni.nib k) = []) (μ := fun z => n - z.1) (x := (j, t)) (j + 1, putT t y.k y.x) (by exact ⟨fun _ => by kernel_rfl, ⟨fun _ => by kernel_rfl, ⟨fun _ => by kernel_rfl, ⟨fun _ => by kernel_rfl, ⟨fun _ => by kernel_rfl, ⟨fun _ => by kernel_rfl, ⟨fun _ => by kernel_rfl, ⟨fun _ => by kernel_rfl, trivial⟩⟩⟩⟩⟩⟩⟩⟩) ⟨hB, hT, by omega, hJ'⟩ (by show n - (j + 1) < n - j; omega)
  obtain rfl : j = n := by omega
  show CW _ _ _ _ _ _ _ [(31, .int .i64 ((j : Nat) : Int)), (29, .slice a j c), (30, .int .i64 ((j : Nat) : Int)), (1, .slice ak nk ck), (2, .slice av nv cv), (6, .bool false), (7, .pointer (some ⟨g, 0, none⟩)), (9, .int .i64 71)] _
  refine cw_seq ?_
  refine cw_region ?_
  refine rw_p 32 (.bool false) (fun _ => by kernel_rfl) (fun _ => ol_conv (v := .bool (decide (((j : Nat) : Int) < ((j : Nat) : Int)))) (by kernel_rfl) (congrArg Value.bool (decide_eq_false (by omega)))) ?_
  refine rw_nil ?_
  refine nw_then ?_
  refine cw_seq ?_
  refine cw_cond_f (fun _ => by kernel_rfl) ?_
  refine cw_exit ?_
  refine nw_exit_then ?_
  refine nw_exit_then ?_
  refine nw_exit_here ?_
  refine nw_then ?_
  refine cw_seq ?_
  refine cw_region ?_
  refine rw_p 6 (.bool true) (fun _ => by kernel_rfl) (fun _ => by kernel_rfl) ?_
  refine rw_nil ?_
  refine nw_then ?_
  refine cw_ret ?_
  exact nw_ret_body (.bool true) (fun _ => by kernel_rfl) ⟨rfl, hB⟩
set_option maxHeartbeats 4000000 in
theorem other_C {w : World} {a : Option Addr} {n c : Nat} {xs : List Opx} (hO : OAt w a n xs) (hn : n ≤ 9223372036854775806) {ak : Option Addr} {nk ck : Nat} {k : List Int} (hk : Sk An w ak nk ck k) {av : Option Addr} {nv cv : Nat} {x : List Int} (hv : Sk An w av nv cv x) (h1 : 32 < nk) (hE : putE k x = 70) :
    Calls Try.prog 3 #[.slice a n c, .slice ak nk ck, .slice av nv cv] w fun e w' => e = .returned (.bool true) ∧ Below w.heap.size w w' := by
  have hB := Bl.refl w
  have lk := hk.len
  have lv := hv.len
  refine cw_enter Try.func3 rfl 84 rfl ?_
  show CW _ _ _ _ _ _ _ [(0, .slice a n c), (1, .slice ak nk ck), (2, .slice av nv cv)] _
  refine cw_seq ?_
  refine cw_region ?_
  refine rw_p 6 (.bool false) (fun _ => by kernel_rfl) (fun _ => by kernel_rfl) ?_
  refine rw_nil ?_
  refine nw_then ?_
  refine cw_seq ?_
  refine cw_region ?_
  refine rw_call 16 4 #[] (fun _ => by kernel_rfl) (fun _ => by kernel_rfl) (R := fun u w' => (∃ g, u = .tuple #[.pointer (some ⟨g, 0, none⟩), .bool true] ∧ (w).heap.size ≤ g ∧ Tri An w' g no) ∧ Bl (w) w') (begun_any (K := An) (fun _ _ => trivial)) ?_
  rintro _ u1 ⟨⟨g, rfl, hgw, hT⟩, hb2⟩
  replace hB := hB.go hb2
  refine rw_p 15 (.tuple #[.pointer (some ⟨g, 0, none⟩), .bool true]) (fun _ => by kernel_rfl) (fun _ => by kernel_rfl) ?_
  refine rw_p 17 (.pointer (some ⟨g, 0, none⟩)) (fun _ => by kernel_rfl) (fun _ => by kernel_rfl) ?_
  refine rw_p 18 (.bool true) (fun _ => by kernel_rfl) (fun _ => by kernel_rfl) ?_
  refine rw_p 7 (.pointer (some ⟨g, 0, none⟩)) (fun _ => by kernel_rfl) (fun _ => by kernel_rfl) ?_
  refine rw_p 8 (.bool true) (fun _ => by kernel_rfl) (fun _ => by kernel_rfl) ?_
  refine rw_nil ?_
  refine nw_then ?_
  refine cw_seq ?_
  refine cw_seq ?_
  refine cw_region ?_
  refine rw_p 19 (.bool true) (fun _ => by kernel_rfl) (fun _ => by kernel_rfl) ?_
  refine rw_p 20 (.bool false) (fun _ => by kernel_rfl) (fun _ => by kernel_rfl) ?_
  refine rw_p 21 (.bool false) (fun _ => by kernel_rfl) (fun _ => by kernel_rfl) ?_
  refine rw_p 22 (.pointer (some ⟨g, 0, none⟩)) (fun _ => by kernel_rfl) (fun _ => by kernel_rfl) ?_
  refine rw_p 23 (.bool false) (fun _ => by kernel_rfl) (fun _ => by kernel_rfl) ?_
  refine rw_p 24 (.bool false) (fun _ => by kernel_rfl) (fun _ => by kernel_rfl) ?_
  refine rw_nil ?_
  refine nw_then ?_
  refine cw_cond_f (fun _ => by kernel_rfl) ?_
  refine cw_skip ?_
  refine nw_then ?_
  refine cw_seq ?_
  refine cw_region ?_
  refine rw_p 25 (.pointer (some ⟨g, 0, none⟩)) (fun _ => by kernel_rfl) (fun _ => by kernel_rfl) ?_
  refine rw_p 26 (.slice ak nk ck) (fun _ => by kernel_rfl) (fun _ => by kernel_rfl) ?_
  refine rw_p 27 (.slice av nv cv) (fun _ => by kernel_rfl) (fun _ => by kernel_rfl) ?_
  refine rw_call 28 5 #[.pointer (some ⟨g, 0, none⟩), .slice ak nk ck, .slice av nv cv] (fun _ => by kernel_rfl) (fun _ => by kernel_rfl) (R := fun u w' => u = .int .i64 70 ∧ Tri An w' g (putT no k x) ∧ Touch g (u1) w') (((tput_any hT (hk.go hB) (hv.go hB) (fun _ _ => trivial)).mono (fun e w' ⟨u, e1, e2, e3⟩ => ⟨u, e1, by rw [e2, hE], e3⟩))) ?_
  rintro _ u3 ⟨rfl, hTn, hto⟩
  replace hB : Bl w u3 := hto.below hB hgw hB.size
  have hoks := hT.ok
  replace hT := hTn
  refine rw_p 9 (.int .i64 70) (fun _ => by kernel_rfl) (fun _ => by kernel_rfl) ?_
  refine rw_nil ?_
  refine nw_then ?_
  refine cw_seq ?_
  refine cw_seq ?_
  refine cw_region ?_
  refine rw_p 29 (.slice a n c) (fun _ => by kernel_rfl) (fun _ => by kernel_rfl) ?_
  refine rw_p 30 (.int .i64 n) (fun _ => by kernel_rfl) (fun _ => by kernel_rfl) ?_
  refine rw_p 31 (.int .i64 0) (fun _ => by kernel_rfl) (fun _ => by kernel_rfl) ?_
  refine rw_nil ?_
  refine nw_then ?_
  refine cw_block ?_
  refine cw_loop (X := Nat × Tr) (fun z => [(31, .int .i64 ((z.1 : Nat) : Int)), (29, .slice a n c), (30, .int .i64 n), (1, .slice ak nk ck), (2, .slice av nv cv), (6, .bool false), (7, .pointer (some ⟨g, 0, none⟩)), (9, .int .i64 70)]) (fun z v => Bl w v ∧ Tri An v g z.2 ∧ z.1 ≤ n) (fun z => n - z.1) (0, putT no k x) (by exact ⟨fun _ => by kernel_rfl, ⟨fun _ => by kernel_rfl, ⟨fun _ => by kernel_rfl, ⟨fun _ => by kernel_rfl, ⟨fun _ => by kernel_rfl, ⟨fun _ => by kernel_rfl, ⟨fun _ => by kernel_rfl, ⟨fun _ => by kernel_rfl, trivial⟩⟩⟩⟩⟩⟩⟩⟩) ⟨hB, hT, Nat.zero_le _⟩ ?_
  clear hB hT hoks
  rintro ⟨j, t⟩ v ⟨hB, hT, hj⟩
  simp only at hB hT hj
  show CW _ _ _ _ _ _ _ [(31, .int .i64 ((j : Nat) : Int)), (29, .slice a n c), (30, .int .i64 n), (1, .slice ak nk ck), (2, .slice av nv cv), (6, .bool false), (7, .pointer (some ⟨g, 0, none⟩)), (9, .int .i64 70)] _
  by_cases hlt : j < n
  · skip
    have hjx : j < xs.length := by rw [hO.len]; exact hlt
    obtain ⟨y, hy⟩ : ∃ y, xs[j]? = some y := ⟨_, List.getElem?_eq_getElem hjx⟩
    have hym : y ∈ xs := List.mem_of_getElem? hy
    obtain ⟨gS, oS, ea, hrow⟩ := hO.row j y hy
    subst ea
    have hy1 := (hO.k y hym).an
    have hy2 := (hO.x y hym).an
    refine cw_seq ?_
    refine cw_region ?_
    refine rw_p 32 (.bool true) (fun _ => by kernel_rfl) (fun _ => ol_conv (v := .bool (decide (((j : Nat) : Int) < (n : Int)))) (by kernel_rfl) (congrArg Value.bool (decide_eq_true (by omega)))) ?_
    refine rw_nil ?_
    refine nw_then ?_
    refine cw_seq ?_
    refine cw_cond_t (fun _ => by kernel_rfl) ?_
    refine cw_skip ?_
    refine nw_then ?_
    refine cw_seq ?_
    refine cw_block ?_
    refine cw_seq ?_
    refine cw_region ?_
    refine rw_p 33 (.pointer (some ⟨gS, oS + j * 3, none⟩)) (fun _ => by kernel_rfl) (fun _ => ol_index 22 _ _ gS oS j n c 3 30 rfl (by kernel_rfl) (by kernel_rfl) hlt Try.underlying22 (by kernel_rfl)) ?_
    refine rw_p 34 (.agg #[.int .i64 y.z, .slice y.ka y.kn y.kc, .slice y.va y.vn y.vc]) (fun _ => by kernel_rfl) (fun _ => ol_mid 30 _ gS (oS + j * 3) y.cells.toList _ rfl (by kernel_rfl) (rng_go hrow hB) Try.underlying30 rfl (by kernel_rfl)) ?_
    refine rw_new 11 #[.int .i64 0, .slice none 0 0, .slice none 0 0] 30 (fun _ => by kernel_rfl) (fun _ => by kernel_rfl) ?_
    intro wA gA hnA
    refine rw_put gA #[.int .i64 y.z, .slice y.ka y.kn y.kc, .slice y.va y.vn y.vc] (fun _ => by kernel_rfl) (fun _ => ol_store 30 _ _ _ _ _ _ rfl (by kernel_rfl) (by kernel_rfl) hnA.row (by kernel_rfl) rfl (by kernel_rfl)) ?_
    intro wC hpC
    have hnC := hnA.put hpC
    have hgA := hnC.hg
    have htl := hT.lt
    replace hB := hB.go hnC.below
    replace hT := hT.go hnC.below
    have hrA : Rw gA wC #[.int .i64 y.z, .slice y.ka y.kn y.kc, .slice y.va y.vn y.vc] 30 := hnC.row
    refine rw_nil ?_
    refine nw_then ?_
    refine cw_seq ?_
    refine cw_seq ?_
    refine cw_region ?_
    refine rw_p 35 (.pointer (some ⟨gA, 1, none⟩)) (fun _ => by kernel_rfl) (fun _ => by kernel_rfl) ?_
    refine rw_p 36 (.slice y.ka y.kn y.kc) (fun _ => by kernel_rfl) (fun _ => ol_cell 23 _ ⟨gA, 1, none⟩ _ _ rfl (by kernel_rfl) (by rw [cell_of_row _ _ _ _ _ _ hrA]; rfl) Try.underlying23 rfl) ?_
    refine rw_p 37 (.string (strOfNums y.k)) (fun _ => by kernel_rfl) (fun _ => (hy1.go hB).run_str _ _ _ rfl (by kernel_rfl)) ?_
    refine rw_p 38 (.slice ak nk ck) (fun _ => by kernel_rfl) (fun _ => by kernel_rfl) ?_
    refine rw_p 39 (.string (strOfNums k)) (fun _ => by kernel_rfl) (fun _ => (hk.go hB).run_str _ _ _ rfl (by kernel_rfl)) ?_
    refine rw_p 40 (.bool (!decide (y.k = k))) (fun _ => by kernel_rfl) (fun _ => ol_nes 9 _ _ _ _ _ rfl (by kernel_rfl) (by kernel_rfl) (congrArg Bool.not (strs_eq (hy1.go hB).ag.b (hk.go hB).ag.b))) ?_
    refine rw_nil ?_
    refine nw_then ?_
    by_cases hyk : y.k = k
    · skip
      rw [show (!decide (y.k = k)) = false from by simp [hyk]]
      refine cw_cond_f (fun _ => by kernel_rfl) ?_
      refine cw_skip ?_
      refine nw_then ?_
      refine cw_seq ?_
      refine cw_region ?_
      refine rw_p 55 (.pointer (some ⟨g, 0, none⟩)) (fun _ => by kernel_rfl) (fun _ => by kernel_rfl) ?_
      refine rw_p 56 (.slice ak nk ck) (fun _ => by kernel_rfl) (fun _ => by kernel_rfl) ?_
      refine rw_call 57 7 #[.pointer (some ⟨g, 0, none⟩), .slice ak nk ck] (fun _ => by kernel_rfl) (fun _ => by kernel_rfl) (R := fun u w' => u = .tuple #[.slice none 0 0, .bool false, .int .i64 70] ∧ Bl (wC) w') ((get_bad (hk.go hB) (by omega))) ?_
      rintro _ u4 ⟨rfl, hb5⟩
      replace hB := hB.go hb5
      replace hT := hT.go hb5
      replace hrA := hrA.go hb5
      refine rw_p 54 (.tuple #[.slice none 0 0, .bool false, .int .i64 70]) (fun _ => by kernel_rfl) (fun _ => by kernel_rfl) ?_
      refine rw_p 58 (.slice none 0 0) (fun _ => by kernel_rfl) (fun _ => by kernel_rfl) ?_
      refine rw_p 59 (.bool false) (fun _ => by kernel_rfl) (fun _ => by kernel_rfl) ?_
      refine rw_p 60 (.int .i64 70) (fun _ => by kernel_rfl) (fun _ => by kernel_rfl) ?_
      refine rw_p 12 (.slice none 0 0) (fun _ => by kernel_rfl) (fun _ => by kernel_rfl) ?_
      refine rw_p 13 (.bool false) (fun _ => by kernel_rfl) (fun _ => by kernel_rfl) ?_
      refine rw_p 14 (.int .i64 70) (fun _ => by kernel_rfl) (fun _ => by kernel_rfl) ?_
      refine rw_nil ?_
      refine nw_then ?_
      refine cw_seq ?_
      refine cw_region ?_
      refine rw_p 61 (.bool false) (fun _ => by kernel_rfl) (fun _ => by kernel_rfl) ?_
      refine rw_p 62 (.int .i64 70) (fun _ => by kernel_rfl) (fun _ => by kernel_rfl) ?_
      refine rw_p 63 (.bool false) (fun _ => by kernel_rfl) (fun _ => by kernel_rfl) ?_
      refine rw_p 64 (.bool false) (fun _ => by kernel_rfl) (fun _ => by kernel_rfl) ?_
      refine rw_p 65 (.bool false) (fun _ => by kernel_rfl) (fun _ => by kernel_rfl) ?_
      refine rw_p 66 (.bool false) (fun _ => by kernel_rfl) (fun _ => by kernel_rfl) ?_
      refine rw_p 67 (.bool false) (fun _ => by kernel_rfl) (fun _ => by kernel_rfl) ?_
      refine rw_off 68 (fun _ => by kernel_rfl) ?_
      refine rw_off 69 (fun _ => by kernel_rfl) ?_
      refine rw_off 70 (fun _ => by kernel_rfl) ?_
      refine rw_off 71 (fun _ => by kernel_rfl) ?_
      refine rw_off 72 (fun _ => by kernel_rfl) ?_
      refine rw_p 73 (.bool false) (fun _ => by kernel_rfl) (fun _ => by kernel_rfl) ?_
      refine rw_p 74 (.bool false) (fun _ => by kernel_rfl) (fun _ => by kernel_rfl) ?_
      refine rw_p 75 (.bool false) (fun _ => by kernel_rfl) (fun _ => by kernel_rfl) ?_
      refine rw_p 76 (.slice ak nk ck) (fun _ => by kernel_rfl) (fun _ => by kernel_rfl) ?_
      refine rw_p 77 (.int .i64 nk) (fun _ => by kernel_rfl) (fun _ => by kernel_rfl) ?_
      refine rw_p 78 (.bool false) (fun _ => by kernel_rfl) (fun _ => ol_conv (v := .bool (decide ((nk : Int) ≤ (32 : Int)))) (by kernel_rfl) (congrArg Value.bool (decide_eq_false (by omega)))) ?_
      refine rw_p 79 (.int .i64 70) (fun _ => by kernel_rfl) (fun _ => by kernel_rfl) ?_
      refine rw_p 80 (.bool false) (fun _ => by kernel_rfl) (fun _ => by kernel_rfl) ?_
      refine rw_p 81 (.bool false) (fun _ => by kernel_rfl) (fun _ => by kernel_rfl) ?_
      refine rw_p 82 (.bool false) (fun _ => by kernel_rfl) (fun _ => by kernel_rfl) ?_
      refine rw_nil ?_
      refine nw_then ?_
      refine cw_cond_f (fun _ => by kernel_rfl) ?_
      refine cw_skip ?_
      refine nw_block ?_
      refine nw_then ?_
      refine cw_region ?_
      refine rw_p 83 (.int .i64 (((j : Nat) : Int) + 1)) (fun _ => by kernel_rfl) (fun _ => ol_conv (v := .int .i64 (IntKind.i64.wrap (((j : Nat) : Int) + 1))) (by kernel_rfl) (congrArg (Value.int .i64) (wrap64 (by omega) (by omega)))) ?_
      refine rw_p 31 (.int .i64 (((j : Nat) : Int) + 1)) (fun _ => by kernel_rfl) (fun _ => by kernel_rfl) ?_
      refine rw_nil ?_
      exact nw_round (E := fun z => [(31, .int .i64 ((z.1 : Nat) : Int)), (29, .slice (some ⟨gS, oS, none⟩) n c), (30, .int .i64 n), (1, .slice ak nk ck), (2, .slice av nv cv), (6, .bool false), (7, .pointer (some ⟨g, 0, none⟩)), (9, .int .i64 70)]) (R := fun z v => Bl w v ∧ Tri An v g z.2 ∧ z.1 ≤ n) (μ := fun z => n - z.1) (x := (j, t)) (j + 1, t) (by exact ⟨fun _ => by kernel_rfl, ⟨fun _ => by kernel_rfl, ⟨fun _ => by kernel_rfl, ⟨fun _ => by kernel_rfl, ⟨fun _ => by kernel_rfl, ⟨fun _ => by kernel_rfl, ⟨fun _ => by kernel_rfl, ⟨fun _ => by kernel_rfl, trivial⟩⟩⟩⟩⟩⟩⟩⟩) ⟨hB, hT, by omega⟩ (by show n - (j + 1) < n - j; omega)
    · skip
      rw [show (!decide (y.k = k)) = true from by simp [hyk]]
      refine cw_cond_t (fun _ => by kernel_rfl) ?_
      refine cw_seq ?_
      refine cw_region ?_
      refine rw_p 41 (.pointer (some ⟨gA, 0, none⟩)) (fun _ => by kernel_rfl) (fun _ => by kernel_rfl) ?_
      refine rw_p 42 (.int .i64 y.z) (fun _ => by kernel_rfl) (fun _ => ol_cell 3 _ ⟨gA, 0, none⟩ _ _ rfl (by kernel_rfl) (by rw [cell_of_row _ _ _ _ _ _ hrA]; rfl) Try.underlying3 rfl) ?_
      refine rw_p 43 (.bool ((y.z : Int) == (1 : Int))) (fun _ => by kernel_rfl) (fun _ => by kernel_rfl) ?_
      refine rw_nil ?_
      refine nw_then ?_
      cases hz1 : ((y.z : Int) == (1 : Int)) with
      | true =>
        refine cw_cond_t (fun _ => by kernel_rfl) ?_
        refine cw_region ?_
        refine rw_p 44 (.pointer (some ⟨g, 0, none⟩)) (fun _ => by kernel_rfl) (fun _ => by kernel_rfl) ?_
        refine rw_p 45 (.pointer (some ⟨gA, 1, none⟩)) (fun _ => by kernel_rfl) (fun _ => by kernel_rfl) ?_
        refine rw_p 46 (.slice y.ka y.kn y.kc) (fun _ => by kernel_rfl) (fun _ => ol_cell 23 _ ⟨gA, 1, none⟩ _ _ rfl (by kernel_rfl) (by rw [cell_of_row _ _ _ _ _ _ hrA]; rfl) Try.underlying23 rfl) ?_
        refine rw_call 47 6 #[.pointer (some ⟨g, 0, none⟩), .slice y.ka y.kn y.kc] (fun _ => by kernel_rfl) (fun _ => by kernel_rfl) (R := fun u w' => (∃ b z, u = .tuple #[.bool b, .int .i64 z]) ∧ Tri An w' g (delT t y.k) ∧ Touch g (wC) w') ((tdel_any hT (hy1.go hB) (fun _ _ => trivial))) ?_
        rintro _ u6 ⟨⟨bD, zD, rfl⟩, hTn, hto⟩
        replace hB : Bl w u6 := hto.below hB hgw hB.size
        replace hrA := hrA.touch hto (by have := hT.lt; omega)
        have hoks := hT.ok
        replace hT := hTn
        refine rw_nil ?_
        refine nw_then ?_
        refine cw_seq ?_
        refine cw_region ?_
        refine rw_p 55 (.pointer (some ⟨g, 0, none⟩)) (fun _ => by kernel_rfl) (fun _ => by kernel_rfl) ?_
        refine rw_p 56 (.slice ak nk ck) (fun _ => by kernel_rfl) (fun _ => by kernel_rfl) ?_
        refine rw_call 57 7 #[.pointer (some ⟨g, 0, none⟩), .slice ak nk ck] (fun _ => by kernel_rfl) (fun _ => by kernel_rfl) (R := fun u w' => u = .tuple #[.slice none 0 0, .bool false, .int .i64 70] ∧ Bl (u6) w') ((get_bad (hk.go hB) (by omega))) ?_
        rintro _ u7 ⟨rfl, hb8⟩
        replace hB := hB.go hb8
        replace hT := hT.go hb8
        replace hrA := hrA.go hb8
        refine rw_p 54 (.tuple #[.slice none 0 0, .bool false, .int .i64 70]) (fun _ => by kernel_rfl) (fun _ => by kernel_rfl) ?_
        refine rw_p 58 (.slice none 0 0) (fun _ => by kernel_rfl) (fun _ => by kernel_rfl) ?_
        refine rw_p 59 (.bool false) (fun _ => by kernel_rfl) (fun _ => by kernel_rfl) ?_
        refine rw_p 60 (.int .i64 70) (fun _ => by kernel_rfl) (fun _ => by kernel_rfl) ?_
        refine rw_p 12 (.slice none 0 0) (fun _ => by kernel_rfl) (fun _ => by kernel_rfl) ?_
        refine rw_p 13 (.bool false) (fun _ => by kernel_rfl) (fun _ => by kernel_rfl) ?_
        refine rw_p 14 (.int .i64 70) (fun _ => by kernel_rfl) (fun _ => by kernel_rfl) ?_
        refine rw_nil ?_
        refine nw_then ?_
        refine cw_seq ?_
        refine cw_region ?_
        refine rw_p 61 (.bool false) (fun _ => by kernel_rfl) (fun _ => by kernel_rfl) ?_
        refine rw_p 62 (.int .i64 70) (fun _ => by kernel_rfl) (fun _ => by kernel_rfl) ?_
        refine rw_p 63 (.bool false) (fun _ => by kernel_rfl) (fun _ => by kernel_rfl) ?_
        refine rw_p 64 (.bool false) (fun _ => by kernel_rfl) (fun _ => by kernel_rfl) ?_
        refine rw_p 65 (.bool false) (fun _ => by kernel_rfl) (fun _ => by kernel_rfl) ?_
        refine rw_p 66 (.bool false) (fun _ => by kernel_rfl) (fun _ => by kernel_rfl) ?_
        refine rw_p 67 (.bool false) (fun _ => by kernel_rfl) (fun _ => by kernel_rfl) ?_
        refine rw_off 68 (fun _ => by kernel_rfl) ?_
        refine rw_off 69 (fun _ => by kernel_rfl) ?_
        refine rw_off 70 (fun _ => by kernel_rfl) ?_
        refine rw_off 71 (fun _ => by kernel_rfl) ?_
        refine rw_off 72 (fun _ => by kernel_rfl) ?_
        refine rw_p 73 (.bool false) (fun _ => by kernel_rfl) (fun _ => by kernel_rfl) ?_
        refine rw_p 74 (.bool false) (fun _ => by kernel_rfl) (fun _ => by kernel_rfl) ?_
        refine rw_p 75 (.bool false) (fun _ => by kernel_rfl) (fun _ => by kernel_rfl) ?_
        refine rw_p 76 (.slice ak nk ck) (fun _ => by kernel_rfl) (fun _ => by kernel_rfl) ?_
        refine rw_p 77 (.int .i64 nk) (fun _ => by kernel_rfl) (fun _ => by kernel_rfl) ?_
        refine rw_p 78 (.bool false) (fun _ => by kernel_rfl) (fun _ => ol_conv (v := .bool (decide ((nk : Int) ≤ (32 : Int)))) (by kernel_rfl) (congrArg Value.bool (decide_eq_false (by omega)))) ?_
        refine rw_p 79 (.int .i64 70) (fun _ => by kernel_rfl) (fun _ => by kernel_rfl) ?_
        refine rw_p 80 (.bool false) (fun _ => by kernel_rfl) (fun _ => by kernel_rfl) ?_
        refine rw_p 81 (.bool false) (fun _ => by kernel_rfl) (fun _ => by kernel_rfl) ?_
        refine rw_p 82 (.bool false) (fun _ => by kernel_rfl) (fun _ => by kernel_rfl) ?_
        refine rw_nil ?_
        refine nw_then ?_
        refine cw_cond_f (fun _ => by kernel_rfl) ?_
        refine cw_skip ?_
        refine nw_block ?_
        refine nw_then ?_
        refine cw_region ?_
        refine rw_p 83 (.int .i64 (((j : Nat) : Int) + 1)) (fun _ => by kernel_rfl) (fun _ => ol_conv (v := .int .i64 (IntKind.i64.wrap (((j : Nat) : Int) + 1))) (by kernel_rfl) (congrArg (Value.int .i64) (wrap64 (by omega) (by omega)))) ?_
        refine rw_p 31 (.int .i64 (((j : Nat) : Int) + 1)) (fun _ => by kernel_rfl) (fun _ => by kernel_rfl) ?_
        refine rw_nil ?_
        exact nw_round (E := fun z => [(31, .int .i64 ((z.1 : Nat) : Int)), (29, .slice (some ⟨gS, oS, none⟩) n c), (30, .int .i64 n), (1, .slice ak nk ck), (2, .slice av nv cv), (6, .bool false), (7, .pointer (some ⟨g, 0, none⟩)), (9, .int .i64 70)]) (R := fun z v => Bl w v ∧ Tri An v g z.2 ∧ z.1 ≤ n) (μ := fun z => n - z.1) (x := (j, t)) (j + 1, delT t y.k) (by exact ⟨fun _ => by kernel_rfl, ⟨fun _ => by kernel_rfl, ⟨fun _ => by kernel_rfl, ⟨fun _ => by kernel_rfl, ⟨fun _ => by kernel_rfl, ⟨fun _ => by kernel_rfl, ⟨fun _ => by kernel_rfl, ⟨fun _ => by kernel_rfl, trivial⟩⟩⟩⟩⟩⟩⟩⟩) ⟨hB, hT, by omega⟩ (by show n - (j + 1) < n - j; omega)
      | false =>
        refine cw_cond_f (fun _ => by kernel_rfl) ?_
        refine cw_region ?_
        refine rw_p 48 (.pointer (some ⟨g, 0, none⟩)) (fun _ => by kernel_rfl) (fun _ => by kernel_rfl) ?_
        refine rw_p 49 (.pointer (some ⟨gA, 1, none⟩)) (fun _ => by kernel_rfl) (fun _ => by kernel_rfl) ?_
        refine rw_p 50 (.slice y.ka y.kn y.kc) (fun _ => by kernel_rfl) (fun _ => ol_cell 23 _ ⟨gA, 1, none⟩ _ _ rfl (by kernel_rfl) (by rw [cell_of_row _ _ _ _ _ _ hrA]; rfl) Try.underlying23 rfl) ?_
        refine rw_p 51 (.pointer (some ⟨gA, 2, none⟩)) (fun _ => by kernel_rfl) (fun _ => by kernel_rfl) ?_
        refine rw_p 52 (.slice y.va y.vn y.vc) (fun _ => by kernel_rfl) (fun _ => ol_cell 23 _ ⟨gA, 2, none⟩ _ _ rfl (by kernel_rfl) (by rw [cell_of_row _ _ _ _ _ _ hrA]; rfl) Try.underlying23 rfl) ?_
        refine rw_call 53 5 #[.pointer (some ⟨g, 0, none⟩), .slice y.ka y.kn y.kc, .slice y.va y.vn y.vc] (fun _ => by kernel_rfl) (fun _ => by kernel_rfl) (R := fun u w' => u = .int .i64 (putE y.k y.x) ∧ Tri An w' g (putT t y.k y.x) ∧ Touch g (wC) w') ((tput_any hT (hy1.go hB) (hy2.go hB) (fun _ _ => trivial))) ?_
        rintro _ u9 ⟨rfl, hTn, hto⟩
        replace hB : Bl w u9 := hto.below hB hgw hB.size
        replace hrA := hrA.touch hto (by have := hT.lt; omega)
        have hoks := hT.ok
        replace hT := hTn
        refine rw_nil ?_
        refine nw_then ?_
        refine cw_seq ?_
        refine cw_region ?_
        refine rw_p 55 (.pointer (some ⟨g, 0, none⟩)) (fun _ => by kernel_rfl) (fun _ => by kernel_rfl) ?_
        refine rw_p 56 (.slice ak nk ck) (fun _ => by kernel_rfl) (fun _ => by kernel_rfl) ?_
        refine rw_call 57 7 #[.pointer (some ⟨g, 0, none⟩), .slice ak nk ck] (fun _ => by kernel_rfl) (fun _ => by kernel_rfl) (R := fun u w' => u = .tuple #[.slice none 0 0, .bool false, .int .i64 70] ∧ Bl (u9) w') ((get_bad (hk.go hB) (by omega))) ?_
        rintro _ u10 ⟨rfl, hb11⟩
        replace hB := hB.go hb11
        replace hT := hT.go hb11
        replace hrA := hrA.go hb11
        refine rw_p 54 (.tuple #[.slice none 0 0, .bool false, .int .i64 70]) (fun _ => by kernel_rfl) (fun _ => by kernel_rfl) ?_
        refine rw_p 58 (.slice none 0 0) (fun _ => by kernel_rfl) (fun _ => by kernel_rfl) ?_
        refine rw_p 59 (.bool false) (fun _ => by kernel_rfl) (fun _ => by kernel_rfl) ?_
        refine rw_p 60 (.int .i64 70) (fun _ => by kernel_rfl) (fun _ => by kernel_rfl) ?_
        refine rw_p 12 (.slice none 0 0) (fun _ => by kernel_rfl) (fun _ => by kernel_rfl) ?_
        refine rw_p 13 (.bool false) (fun _ => by kernel_rfl) (fun _ => by kernel_rfl) ?_
        refine rw_p 14 (.int .i64 70) (fun _ => by kernel_rfl) (fun _ => by kernel_rfl) ?_
        refine rw_nil ?_
        refine nw_then ?_
        refine cw_seq ?_
        refine cw_region ?_
        refine rw_p 61 (.bool false) (fun _ => by kernel_rfl) (fun _ => by kernel_rfl) ?_
        refine rw_p 62 (.int .i64 70) (fun _ => by kernel_rfl) (fun _ => by kernel_rfl) ?_
        refine rw_p 63 (.bool false) (fun _ => by kernel_rfl) (fun _ => by kernel_rfl) ?_
        refine rw_p 64 (.bool false) (fun _ => by kernel_rfl) (fun _ => by kernel_rfl) ?_
        refine rw_p 65 (.bool false) (fun _ => by kernel_rfl) (fun _ => by kernel_rfl) ?_
        refine rw_p 66 (.bool false) (fun _ => by kernel_rfl) (fun _ => by kernel_rfl) ?_
        refine rw_p 67 (.bool false) (fun _ => by kernel_rfl) (fun _ => by kernel_rfl) ?_
        refine rw_off 68 (fun _ => by kernel_rfl) ?_
        refine rw_off 69 (fun _ => by kernel_rfl) ?_
        refine rw_off 70 (fun _ => by kernel_rfl) ?_
        refine rw_off 71 (fun _ => by kernel_rfl) ?_
        refine rw_off 72 (fun _ => by kernel_rfl) ?_
        refine rw_p 73 (.bool false) (fun _ => by kernel_rfl) (fun _ => by kernel_rfl) ?_
        refine rw_p 74 (.bool false) (fun _ => by kernel_rfl) (fun _ => by kernel_rfl) ?_
        refine rw_p 75 (.bool false) (fun _ => by kernel_rfl) (fun _ => by kernel_rfl) ?_
        refine rw_p 76 (.slice ak nk ck) (fun _ => by kernel_rfl) (fun _ => by kernel_rfl) ?_
        refine rw_p 77 (.int .i64 nk) (fun _ => by kernel_rfl) (fun _ => by kernel_rfl) ?_
        refine rw_p 78 (.bool false) (fun _ => by kernel_rfl) (fun _ => ol_conv (v := .bool (decide ((nk : Int) ≤ (32 : Int)))) (by kernel_rfl) (congrArg Value.bool (decide_eq_false (by omega)))) ?_
        refine rw_p 79 (.int .i64 70) (fun _ => by kernel_rfl) (fun _ => by kernel_rfl) ?_
        refine rw_p 80 (.bool false) (fun _ => by kernel_rfl) (fun _ => by kernel_rfl) ?_
        refine rw_p 81 (.bool false) (fun _ => by kernel_rfl) (fun _ => by kernel_rfl) ?_
        refine rw_p 82 (.bool false) (fun _ => by kernel_rfl) (fun _ => by kernel_rfl) ?_
        refine rw_nil ?_
        refine nw_then ?_
        refine cw_cond_f (fun _ => by kernel_rfl) ?_
        refine cw_skip ?_
        refine nw_block ?_
        refine nw_then ?_
        refine cw_region ?_
        refine rw_p 83 (.int .i64 (((j : Nat) : Int) + 1)) (fun _ => by kernel_rfl) (fun _ => ol_conv (v := .int .i64 (IntKind.i64.wrap (((j : Nat) : Int) + 1))) (by kernel_rfl) (congrArg (Value.int .i64) (wrap64 (by omega) (by omega)))) ?_
        refine rw_p 31 (.int .i64 (((j : Nat) : Int) + 1)) (fun _ => by kernel_rfl) (fun _ => by kernel_rfl) ?_
        refine rw_nil ?_
        exact nw_round (E := fun z => [(31, .int .i64 ((z.1 : Nat) : Int)), (29, .slice (some ⟨gS, oS, none⟩) n c), (30, .int .i64 n), (1, .slice ak nk ck), (2, .slice av nv cv), (6, .bool false), (7, .pointer (some ⟨g, 0, none⟩)), (9, .int .i64 70)]) (R := fun z v => Bl w v ∧ Tri An v g z.2 ∧ z.1 ≤ n) (μ := fun z => n - z.1) (x := (j, t)) (j + 1, putT t y.k y.x) (by exact ⟨fun _ => by kernel_rfl, ⟨fun _ => by kernel_rfl, ⟨fun _ => by kernel_rfl, ⟨fun _ => by kernel_rfl, ⟨fun _ => by kernel_rfl, ⟨fun _ => by kernel_rfl, ⟨fun _ => by kernel_rfl, ⟨fun _ => by kernel_rfl, trivial⟩⟩⟩⟩⟩⟩⟩⟩) ⟨hB, hT, by omega⟩ (by show n - (j + 1) < n - j; omega)
  obtain rfl : j = n := by omega
  show CW _ _ _ _ _ _ _ [(31, .int .i64 ((j : Nat) : Int)), (29, .slice a j c), (30, .int .i64 ((j : Nat) : Int)), (1, .slice ak nk ck), (2, .slice av nv cv), (6, .bool false), (7, .pointer (some ⟨g, 0, none⟩)), (9, .int .i64 70)] _
  refine cw_seq ?_
  refine cw_region ?_
  refine rw_p 32 (.bool false) (fun _ => by kernel_rfl) (fun _ => ol_conv (v := .bool (decide (((j : Nat) : Int) < ((j : Nat) : Int)))) (by kernel_rfl) (congrArg Value.bool (decide_eq_false (by omega)))) ?_
  refine rw_nil ?_
  refine nw_then ?_
  refine cw_seq ?_
  refine cw_cond_f (fun _ => by kernel_rfl) ?_
  refine cw_exit ?_
  refine nw_exit_then ?_
  refine nw_exit_then ?_
  refine nw_exit_here ?_
  refine nw_then ?_
  refine cw_seq ?_
  refine cw_region ?_
  refine rw_p 6 (.bool true) (fun _ => by kernel_rfl) (fun _ => by kernel_rfl) ?_
  refine rw_nil ?_
  refine nw_then ?_
  refine cw_ret ?_
  exact nw_ret_body (.bool true) (fun _ => by kernel_rfl) ⟨rfl, hB⟩
theorem other_any (a : Option Addr) (n c : Nat) (xs : List Opx) (ak : Option Addr) (nk ck : Nat) (k : List Int) (av : Option Addr) (nv cv : Nat) (x : List Int) (w : World) (hO : OAt w a n xs) (hn : n ≤ 9223372036854775806) (hk : Ag w ak nk ck k) (hv : Ag w av nv cv x) :
    Calls Try.prog 3 #[.slice a n c, .slice ak nk ck, .slice av nv cv] w fun e w' => e = .returned (.bool true) ∧ Below w.heap.size w w' := by
  have lk := hk.l
  have lv := hv.l
  by_cases h1 : nk ≤ 32
  · by_cases h2 : 0 < nv ∧ nv ≤ 256
    · exact other_A hO hn hk.an hv.an h1 h2.1 h2.2 (by unfold putE; rw [lk, lv, if_pos h1, if_pos h2])
    · exact other_B hO hn hk.an hv.an h1 (by rw [lk, lv]; exact fun q => h2 q.2) (by unfold putE; rw [lk, lv, if_pos h1, if_neg h2])
  · exact other_C hO hn hk.an hv.an (by omega) (by unfold putE; rw [lk, if_neg h1])
end Go.Proofs.Ytalhnnjpjaeakaa

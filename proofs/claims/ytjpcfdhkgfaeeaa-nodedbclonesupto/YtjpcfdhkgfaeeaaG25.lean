/- How the three lists of calls that are handed in read as data. -/
import Derived.Test.YtjpcfdhkgfaeeaaG23
import Derived.Test.YtjpcfdhkgfaeeaaG24
namespace Go.Proofs.Ytjpcfdhkgfaeeaa
open Go.ChangeShapes Go.WideShapes Go.ChangeAt Go.RowKit
set_option linter.unusedVariables false
set_option maxRecDepth 100000
theorem cellsWY : Try.prog.cellsOf 63 = 3 := by kernel_rfl
theorem cellsOL : Try.prog.cellsOf 22 = 1 := by kernel_rfl
/-- Three lists of calls. -/
structure Wy where
  a1 : Option Addr
  n1 : Nat
  c1 : Nat
  x1 : List Cl
  a2 : Option Addr
  n2 : Nat
  c2 : Nat
  x2 : List Cl
  a3 : Option Addr
  n3 : Nat
  c3 : Nat
  x3 : List Cl
def Wy.cells (y : Wy) : Array Value := #[.slice y.a1 y.n1 y.c1, .slice y.a2 y.n2 y.c2, .slice y.a3 y.n3 y.c3]
structure WyAt (w : World) (y : Wy) : Prop where
  o1 : Cs w y.a1 y.n1 y.c1 y.x1
  o2 : Cs w y.a2 y.n2 y.c2 y.x2
  o3 : Cs w y.a3 y.n3 y.c3 y.x3
theorem split3 {cs : List Value} (h : cs.length = 3) : cs = (cs.drop 0).take 1 ++ ((cs.drop 1).take 1 ++ (cs.drop 2).take 1) := by
  match cs, h with
  | [a, b, c], _ => rfl
theorem open_ways {H : Type} {enc : TypeId × Value → H} {w : World} {b0 : Nat} {r : Reach} {held : Bool} {v : Value} {d : DataW H} {p : List MemPlace}
    (hv : Value.okWide Try.prog w r b0 63 v) (h : DataW.Trod enc Try.prog w 0 (fun _ => true) held 63 v d p)
    (hsz : ∀ n ∈ d.weights Try.prog 63, n ≤ reachBytes) : ∃ y : Wy, v = .agg y.cells ∧ WyAt w y := by
  obtain ⟨cs, rfl, hc⟩ := okWide_struct Try.underlying63 hv
  obtain ⟨fuel, hf⟩ := h
  obtain ⟨xs, n, hfu, hx, hcl, hxl, hel⟩ := DataW.trod_struct Try.underlying63 hf
  rw [cellsWY] at hcl
  have e0 := hel 0 _ rfl
  have e1 := hel 1 _ rfl
  have e2 := hel 2 _ rfl
  have hxl3 : xs.length = 3 := hxl
  obtain ⟨x0, x1, x2, rfl⟩ : ∃ x0 x1 x2, xs = [x0, x1, x2] := by
    match xs, hxl3 with
    | [a, b, c], _ => exact ⟨a, b, c, rfl⟩
  have hd : d = DataW.agg [x0.1, x1.1, x2.1] := congrArg Prod.fst hx
  have f0 : DataW.trod enc Try.prog w 0 (fun _ => true) held n 22 (((Value.agg cs).cells.toList.drop 0).take (Try.prog.cellsOf 22)) = some x0 := e0
  have f1 : DataW.trod enc Try.prog w 0 (fun _ => true) held n 22 (((Value.agg cs).cells.toList.drop 1).take (Try.prog.cellsOf 22)) = some x1 := e1
  have f2 : DataW.trod enc Try.prog w 0 (fun _ => true) held n 22 (((Value.agg cs).cells.toList.drop 2).take (Try.prog.cellsOf 22)) = some x2 := e2
  rw [cellsOL] at f0 f1 f2
  have hwt : ∀ (k : Nat), (k ∈ x0.1.weights Try.prog 22 ∨ k ∈ x1.1.weights Try.prog 22 ∨ k ∈ x2.1.weights Try.prog 22) → k ≤ reachBytes := by
    intro k hk
    refine hsz k ?_
    rw [hd]
    simp only [DataW.weights, Try.underlying63]
    simp only [List.map, DataW.weightsEach, List.mem_append]
    rcases hk with hk | hk | hk
    · exact .inl hk
    · exact .inr (.inl hk)
    · exact .inr (.inr (.inl hk))
  obtain ⟨a1, n1, c1, y1, h1, o1⟩ := open_opsF f0 (fun k hk => hwt k (.inl hk))
  obtain ⟨a2, n2, c2, y2, h2, o2⟩ := open_opsF f1 (fun k hk => hwt k (.inr (.inl hk)))
  obtain ⟨a3, n3, c3, y3, h3, o3⟩ := open_opsF f2 (fun k hk => hwt k (.inr (.inr hk)))
  refine ⟨⟨a1, n1, c1, y1, a2, n2, c2, y2, a3, n3, c3, y3⟩, ?_, ⟨o1, o2, o3⟩⟩
  congr 1
  apply Array.ext'
  have hs := split3 (cs := (Value.agg cs).cells.toList) hcl
  rw [h1, h2, h3] at hs
  have hs2 : cs.toList = [.slice a1 n1 c1, .slice a2 n2 c2, .slice a3 n3 c3] := by simpa [Value.cells] using hs
  exact hs2
end Go.Proofs.Ytjpcfdhkgfaeeaa
/- What is done to a clone is not seen at the store: the law NodedbClones. -/
namespace Go.Proofs.Ytjpcfdhkgfaeeaa
open Go.RowKit
set_option linter.unusedVariables false
set_option maxRecDepth 100000
theorem Al.other {W v v' v2 : World} {g m gr k g2 : Nat} {most : Int} {L M : List Th} {b : Option Addr} {nb cb : Nat} {C C0 : Array Value} {T : TypeId} (h : Al W v g2 m gr most M b nb cb) (hm : MapAt v k L) (t : Touch k v v') (hp : Put v' v2 g C) (hb : v'.heap[g]? = some (.cells C0 T (0, 0))) (hC : C0.size ≤ 33) (hk : W.heap.size ≤ k) (hg : W.heap.size ≤ g) (s : k ≠ g2 ∧ k ≠ m ∧ k ≠ gr ∧ g ≠ g2 ∧ g ≠ m ∧ g ≠ gr) : Al W v2 g2 m gr most M b nb cb := by
  have hst : Sto v' g2 m most M := ⟨t.row h.st.row (by omega), h.st.mp.keep (fun hl => t.block m hl (by omega)), h.st.ne⟩
  have hrb : SBx gr v' most b nb cb := t.row h.rb (by omega)
  have hls := h.ls.touch hm t
  have hbl := touch_below h.bel t hk
  refine ⟨?_, ?_, ?_, h.iv, hp.below hbl hg hbl.size, h.hg, h.ne⟩
  · obtain ⟨rfl⟩ := hp
    exact hst.res s.2.2.2.1 s.2.2.2.2.1
  · obtain ⟨rfl⟩ := hp
    exact (setRow_other _ _ _ _ (by omega)).trans hrb
  · obtain ⟨rfl⟩ := hp
    exact hls.one (hls.nbox hb hC)
set_option maxHeartbeats 8000000 in
theorem clones_law (most : Int) (a : Option Addr) (n c : Nat) (xs : List Cl) (a2 : Option Addr) (n2 c2 : Nat) (x2s : List Cl) (a3 : Option Addr) (n3 c3 : Nat) (x3s : List Cl) (W0 : World) (hC0 : Cs W0 a n c xs) (hC20 : Cs W0 a2 n2 c2 x2s) (hC30 : Cs W0 a3 n3 c3 x3s) (hb1 : n ≤ 1048576) (hb2' : n2 ≤ 1048576) (hb3' : n3 ≤ 1048576) :
    Calls Try.prog 7 #[.int .i64 most, .agg #[.slice a n c, .slice a2 n2 c2, .slice a3 n3 c3]] W0 fun e W' => e = .returned (.bool true) ∧ Below W0.heap.size W0 W' := by
  refine cw_enter Try.func7 rfl 106 rfl ?_
  show CW _ _ _ _ _ _ _ [(0, .int .i64 most), (1, .agg #[.slice a n c, .slice a2 n2 c2, .slice a3 n3 c3])] _
  refine cw_seq ?_
  refine cw_region ?_
  refine rw_new 3 #[.slice a n c, .slice a2 n2 c2, .slice a3 n3 c3] 63 (fun _ => by kernel_rfl) (fun _ => by kernel_rfl) ?_
  intro W gw hnW
  have hC := hC0.go hnW.below
  have hC2 := hC20.go hnW.below
  have hC3 := hC30.go hnW.below
  have hgw : gw < W.heap.size := lt_of_get hnW.row
  have hwb : ∀ v, Below W.heap.size W v → v.heap[gw]? = some (.cells #[.slice a n c, .slice a2 n2 c2, .slice a3 n3 c3] 63 (0, 0)) := fun v hb => (hb.block gw hgw).trans hnW.row
  refine rw_p 4 (.bool false) (fun _ => by kernel_rfl) (fun _ => by kernel_rfl) ?_
  refine rw_nil ?_
  refine nw_then ?_
  refine cw_seq ?_
  refine cw_region ?_
  refine rw_p 14 (.int .i64 most) (fun _ => by kernel_rfl) (fun _ => by kernel_rfl) ?_
  refine rw_call 15 9 #[.int .i64 most] (fun _ => by kernel_rfl) (fun _ => by kernel_rfl) (R := fun val w' => ∃ g m, val = .tuple #[.pointer (some ⟨g, 0, none⟩), .bool true] ∧ Sto w' g m most [] ∧ W.heap.size ≤ g ∧ W.heap.size ≤ m ∧ Below W.heap.size W w') ((begun_any most W).mono (fun e w' h => by obtain ⟨⟨g, m, rfl, h1, h2, h3⟩, hb⟩ := h; exact ⟨_, rfl, g, m, rfl, h1, h2, h3, hb⟩)) ?_
  rintro val u1 ⟨g0, m0, rfl, hst0, hg0, hm0, hb0⟩
  refine rw_p 13 (.tuple #[.pointer (some ⟨g0, 0, none⟩), .bool true]) (fun _ => by kernel_rfl) (fun _ => by kernel_rfl) ?_
  refine rw_p 16 (.pointer (some ⟨g0, 0, none⟩)) (fun _ => by kernel_rfl) (fun _ => by kernel_rfl) ?_
  refine rw_p 17 (.bool true) (fun _ => by kernel_rfl) (fun _ => by kernel_rfl) ?_
  refine rw_p 5 (.pointer (some ⟨g0, 0, none⟩)) (fun _ => by kernel_rfl) (fun _ => by kernel_rfl) ?_
  refine rw_p 6 (.bool true) (fun _ => by kernel_rfl) (fun _ => by kernel_rfl) ?_
  refine rw_nil ?_
  refine nw_then ?_
  refine cw_seq ?_
  refine cw_seq ?_
  refine cw_region ?_
  refine rw_p 18 (.bool true) (fun _ => by kernel_rfl) (fun _ => by kernel_rfl) ?_
  refine rw_p 19 (.bool false) (fun _ => by kernel_rfl) (fun _ => by kernel_rfl) ?_
  refine rw_nil ?_
  refine nw_then ?_
  refine cw_cond_f (fun _ => by kernel_rfl) ?_
  refine cw_skip ?_
  refine nw_then ?_
  refine cw_seq ?_
  refine cw_region ?_
  refine rw_p 20 (.int .i64 most) (fun _ => by kernel_rfl) (fun _ => by kernel_rfl) ?_
  refine rw_p 21 (.agg #[.int .i64 most, .slice none 0 0]) (fun _ => by kernel_rfl) (fun _ => ol_build 28 _ [(0, .int .i64 most)] _ rfl (by kernel_rfl) (congrFun built_RSg most)) ?_
  refine rw_new 7 #[.int .i64 0, .slice none 0 0] 28 (fun _ => by kernel_rfl) (fun _ => by kernel_rfl) ?_
  intro uA gr hnA
  refine rw_put gr #[.int .i64 most, .slice none 0 0] (fun _ => by kernel_rfl) (fun _ => ol_store 28 _ _ _ _ _ _ rfl (by kernel_rfl) (by kernel_rfl) hnA.row (by kernel_rfl) rfl (s_one _ _ _ _)) ?_
  intro uB hpB
  have hnB := hnA.put hpB
  have hA0 : Al W uB g0 m0 gr most [] none 0 0 := ⟨hst0.go hnB.below, hnB.row, ⟨rfl, ⟨Nat.le_refl _, by unfold maxLen; omega⟩, fun _ => ⟨rfl, rfl⟩, fun j x h => by simp at h, fun x hx => by cases hx⟩, iv_nil, below_go hb0 hnB.below, ⟨hg0, hm0, by have h1 := hnB.hg; have h2 := hb0.size; omega⟩, by have h1 := hnB.hg; have h2 := hst0.lts; omega⟩
  refine rw_nil ?_
  refine nw_then ?_
  refine cw_seq ?_
  refine cw_seq ?_
  refine cw_region ?_
  refine rw_p 22 (.pointer (some ⟨gw, 0, none⟩)) (fun _ => by kernel_rfl) (fun _ => by kernel_rfl) ?_
  refine rw_p 23 (.slice a n c) (fun _ => by kernel_rfl) (fun _ => ol_cell 22 _ ⟨gw, 0, none⟩ _ _ rfl (by kernel_rfl) (by rw [cell_of_row _ _ _ _ _ _ (hwb _ hA0.bel)]; rfl) Try.underlying22 rfl) ?_
  refine rw_p 24 (.int .i64 n) (fun _ => by kernel_rfl) (fun _ => by kernel_rfl) ?_
  refine rw_p 25 (.int .i64 0) (fun _ => by kernel_rfl) (fun _ => by kernel_rfl) ?_
  refine rw_nil ?_
  refine nw_then ?_
  refine cw_block ?_
  refine cw_loop (X := (Nat × (Nat × Nat) × List Th × Option Addr × Nat × Nat)) (fun x : (Nat × (Nat × Nat) × List Th × Option Addr × Nat × Nat) => [(5, .pointer (some ⟨x.2.1.1, 0, none⟩)), (7, .pointer (some ⟨gr, 0, none⟩)), (23, .slice a n c), (24, .int .i64 ((n : Nat) : Int)), (25, .int .i64 ((x.1 : Nat) : Int)), (3, .pointer (some ⟨gw, 0, none⟩))]) (fun (x : (Nat × (Nat × Nat) × List Th × Option Addr × Nat × Nat)) v => Al W v x.2.1.1 x.2.1.2 gr most x.2.2.1 x.2.2.2.1 x.2.2.2.2.1 x.2.2.2.2.2 ∧ x.2.2.1.length ≤ x.1 ∧ x.1 ≤ n) (fun x => n - x.1) (0, (g0, m0), [], none, 0, 0) (by exact ⟨fun _ => by kernel_rfl, ⟨fun _ => by kernel_rfl, ⟨fun _ => by kernel_rfl, ⟨fun _ => by kernel_rfl, ⟨fun _ => by kernel_rfl, ⟨fun _ => by kernel_rfl, trivial⟩⟩⟩⟩⟩⟩) ⟨hA0, Nat.le_refl _, Nat.zero_le _⟩ ?_
  rintro ⟨k, ⟨g, m⟩, L, a', n', c'⟩ v ⟨hA, hLk, hkn⟩
  simp only at hA hLk hkn ⊢
  by_cases hlt : k < n
  · skip
    obtain ⟨x, hx⟩ : ∃ x, xs[k]? = some x := ⟨_, List.getElem?_eq_getElem (by rw [← hC.l]; exact hlt)⟩
    obtain ⟨gx, off, rfl, _⟩ := hC.rows k x hx
    have hxo := hC.ok x (List.mem_of_getElem? hx)
    refine cw_seq ?_
    refine cw_region ?_
    refine rw_p 26 (.bool true) (fun _ => by kernel_rfl) (fun _ => ol_conv (v := .bool (decide (((k : Nat) : Int) < ((n : Nat) : Int)))) (by kernel_rfl) (congrArg Value.bool (decide_eq_true (by omega)))) ?_
    refine rw_nil ?_
    refine nw_then ?_
    refine cw_seq ?_
    refine cw_cond_t (fun _ => by kernel_rfl) ?_
    refine cw_skip ?_
    refine nw_then ?_
    refine cw_seq ?_
    refine cw_block ?_
    refine cw_seq ?_
    refine cw_region ?_
    refine rw_p 27 (.pointer (some ⟨gx, off + k * 35, none⟩)) (fun _ => by kernel_rfl) (fun _ => ol_index 22 _ _ gx off k n c 35 32 rfl (by kernel_rfl) (by kernel_rfl) hlt Try.underlying22 (by kernel_rfl)) ?_
    refine rw_p 28 (.agg x.cells.toArray) (fun _ => by kernel_rfl) (fun _ => ol_op hC hA.bel hx _ rfl (by kernel_rfl)) ?_
    refine rw_new 9 zop 32 (fun _ => by kernel_rfl) (fun _ => by kernel_rfl) ?_
    intro vA go hnO
    refine rw_put go x.cells.toArray (fun _ => by kernel_rfl) (fun _ => ol_store 32 _ _ _ _ _ _ rfl (by kernel_rfl) (by kernel_rfl) hnO.row (by rw [op_size hxo.1]; kernel_rfl) (by rw [op_size hxo.1]; rfl) (op_ones x)) ?_
    intro vB hpO
    have hnb := hnO.put hpO
    have hA1 := hA.go hnb.below
    have hO : CBx go vB x := hnb.row
    refine rw_nil ?_
    refine nw_then ?_
    refine cw_seq ?_
    refine cw_region ?_
    refine rw_p 30 (.pointer (some ⟨g, 0, none⟩)) (fun _ => by kernel_rfl) (fun _ => by kernel_rfl) ?_
    refine rw_p 31 (.agg #[.int .i64 most, .slice a' n' c']) (fun _ => by kernel_rfl) (fun _ => ol_row 28 _ _ _ _ _ _ rfl (by kernel_rfl) hA1.rb Try.underlying28 rfl (by kernel_rfl)) ?_
    refine rw_p 32 (.agg x.cells.toArray) (fun _ => by kernel_rfl) (fun _ => ol_row 32 _ _ _ _ _ _ rfl (by kernel_rfl) hO Try.underlying32 rfl (by rw [op_size hxo.1]; kernel_rfl)) ?_
    refine rw_call 33 11 #[.pointer (some ⟨g, 0, none⟩), .agg #[.int .i64 most, .slice a' n' c'], .agg x.cells.toArray] (fun _ => by kernel_rfl) (fun _ => by kernel_rfl) (R := fun val w' => (∃ a2 n2 c2, val = .tuple #[.agg #[.int .i64 most, .slice a2 n2 c2], .bool true] ∧ Ls w' a2 n2 c2 (stepL most x L)) ∧ Sto w' g m most (stepL most x L) ∧ Touch m vB w') ((step_any hA1.st hA1.ls hA1.iv x hxo.1 hxo.2 (by rw [hA1.len]; omega)).mono (fun e w' h => by obtain ⟨⟨a2, n2, c2, rfl, h1⟩, h2⟩ := h; exact ⟨_, rfl, ⟨a2, n2, c2, rfl, h1⟩, h2⟩)) ?_
    rintro val u2 ⟨⟨a2, n2, c2, rfl, hls2⟩, hst2, ht2⟩
    refine rw_p 29 (.tuple #[.agg #[.int .i64 most, .slice a2 n2 c2], .bool true]) (fun _ => by kernel_rfl) (fun _ => by kernel_rfl) ?_
    refine rw_p 34 (.agg #[.int .i64 most, .slice a2 n2 c2]) (fun _ => by kernel_rfl) (fun _ => by kernel_rfl) ?_
    refine rw_p 35 (.bool true) (fun _ => by kernel_rfl) (fun _ => by kernel_rfl) ?_
    refine rw_put gr #[.int .i64 most, .slice a2 n2 c2] (fun _ => by kernel_rfl) (fun _ => ol_store 28 _ _ _ _ _ _ rfl (by kernel_rfl) (by kernel_rfl) (ht2.row hA1.rb hA1.ne.2) (by kernel_rfl) rfl (s_one _ _ _ _)) ?_
    intro vD hpD
    have hA2 := hA1.step hst2 hls2 ht2 (stepL_iv hA1.iv hxo.1 hxo.2) hpD
    refine rw_p 6 (.bool true) (fun _ => by kernel_rfl) (fun _ => by kernel_rfl) ?_
    refine rw_nil ?_
    refine nw_then ?_
    refine cw_seq ?_
    refine cw_region ?_
    refine rw_p 36 (.bool true) (fun _ => by kernel_rfl) (fun _ => by kernel_rfl) ?_
    refine rw_p 37 (.bool false) (fun _ => by kernel_rfl) (fun _ => by kernel_rfl) ?_
    refine rw_nil ?_
    refine nw_then ?_
    refine cw_cond_f (fun _ => by kernel_rfl) ?_
    refine cw_skip ?_
    refine nw_block ?_
    refine nw_then ?_
    refine cw_region ?_
    refine rw_p 38 (.int .i64 (((k : Nat) : Int) + 1)) (fun _ => by kernel_rfl) (fun _ => ol_conv (v := .int .i64 (IntKind.i64.wrap (((k : Nat) : Int) + 1))) (by kernel_rfl) (congrArg (Value.int .i64) (wrap64 (by omega) (by omega)))) ?_
    refine rw_p 25 (.int .i64 (((k : Nat) : Int) + 1)) (fun _ => by kernel_rfl) (fun _ => by kernel_rfl) ?_
    refine rw_nil ?_
    exact nw_round (E := fun x : (Nat × (Nat × Nat) × List Th × Option Addr × Nat × Nat) => [(5, .pointer (some ⟨x.2.1.1, 0, none⟩)), (7, .pointer (some ⟨gr, 0, none⟩)), (23, .slice (some ⟨gx, off, none⟩) n c), (24, .int .i64 ((n : Nat) : Int)), (25, .int .i64 ((x.1 : Nat) : Int)), (3, .pointer (some ⟨gw, 0, none⟩))]) (R := fun (x : (Nat × (Nat × Nat) × List Th × Option Addr × Nat × Nat)) v => Al W v x.2.1.1 x.2.1.2 gr most x.2.2.1 x.2.2.2.1 x.2.2.2.2.1 x.2.2.2.2.2 ∧ x.2.2.1.length ≤ x.1 ∧ x.1 ≤ n) (μ := fun x => n - x.1) (x := (k, (g, m), L, a', n', c')) (k + 1, (g, m), stepL most x L, a2, n2, c2) (by exact ⟨fun _ => by kernel_rfl, ⟨fun _ => by kernel_rfl, ⟨fun _ => by kernel_rfl, ⟨fun _ => by kernel_rfl, ⟨fun _ => by kernel_rfl, ⟨fun _ => by kernel_rfl, trivial⟩⟩⟩⟩⟩⟩) ⟨hA2, by have := stepL_len most x L; simp only; omega, by simp only; omega⟩ (by simp only; omega)
  refine cw_seq ?_
  refine cw_region ?_
  refine rw_p 26 (.bool false) (fun _ => by kernel_rfl) (fun _ => ol_conv (v := .bool (decide (((k : Nat) : Int) < ((n : Nat) : Int)))) (by kernel_rfl) (congrArg Value.bool (decide_eq_false (by omega)))) ?_
  refine rw_nil ?_
  refine nw_then ?_
  refine cw_seq ?_
  refine cw_cond_f (fun _ => by kernel_rfl) ?_
  refine cw_exit ?_
  refine nw_exit_then ?_
  refine nw_exit_then ?_
  refine nw_exit_here ?_
  refine nw_then ?_
  refine cw_seq ?_
  refine cw_region ?_
  refine rw_p 39 (.pointer (some ⟨g, 0, none⟩)) (fun _ => by kernel_rfl) (fun _ => by kernel_rfl) ?_
  refine rw_call 40 10 #[.pointer (some ⟨g, 0, none⟩)] (fun _ => by kernel_rfl) (fun _ => by kernel_rfl) (R := fun val w' => ∃ g2 m2, val = .pointer (some ⟨g2, 0, none⟩) ∧ Sto w' g2 m2 most L ∧ v.heap.size ≤ g2 ∧ v.heap.size ≤ m2 ∧ Below v.heap.size v w') ((clone_any hA.st).mono (fun e w' h => by obtain ⟨⟨g2, m2, rfl, h1, h2, h3⟩, hb⟩ := h; exact ⟨_, rfl, g2, m2, rfl, h1, h2, h3, hb⟩)) ?_
  rintro val u3 ⟨g2, m2, rfl, hst2, hg2, hm2, hb2⟩
  have hlts := hA.st.lts
  have hltr := lt_of_get hA.rb
  have hvs := hA.bel.size
  replace hA := hA.go hb2
  refine rw_p 10 (.pointer (some ⟨g2, 0, none⟩)) (fun _ => by kernel_rfl) (fun _ => by kernel_rfl) ?_
  refine rw_nil ?_
  refine nw_then ?_
  refine cw_seq ?_
  refine cw_seq ?_
  refine cw_region ?_
  refine rw_p 41 (.pointer (some ⟨g2, 0, none⟩)) (fun _ => by kernel_rfl) (fun _ => by kernel_rfl) ?_
  refine rw_p 42 (.bool false) (fun _ => by kernel_rfl) (fun _ => by kernel_rfl) ?_
  refine rw_nil ?_
  refine nw_then ?_
  refine cw_cond_f (fun _ => by kernel_rfl) ?_
  refine cw_skip ?_
  refine nw_then ?_
  refine cw_seq ?_
  refine cw_region ?_
  refine rw_p 43 (.agg #[.int .i64 most, .slice a' n' c']) (fun _ => by kernel_rfl) (fun _ => ol_row 28 _ _ _ _ _ _ rfl (by kernel_rfl) hA.rb Try.underlying28 rfl (by kernel_rfl)) ?_
  refine rw_new 11 #[.int .i64 0, .slice none 0 0] 28 (fun _ => by kernel_rfl) (fun _ => by kernel_rfl) ?_
  intro uD gq hnQ
  refine rw_put gq #[.int .i64 most, .slice a' n' c'] (fun _ => by kernel_rfl) (fun _ => ol_store 28 _ _ _ _ _ _ rfl (by kernel_rfl) (by kernel_rfl) hnQ.row (by kernel_rfl) rfl (s_one _ _ _ _)) ?_
  intro uE hpQ
  have hnq := hnQ.put hpQ
  have hsz := hb2.size
  have hqg := hnq.hg
  have hl2 := hst2.lts
  replace hA := hA.go hnq.below
  have hB : Al W uE g2 m2 gq most L a' n' c' := ⟨hst2.go hnq.below, hnq.row, hA.ls, hA.iv, hA.bel, ⟨by omega, by omega, by omega⟩, by omega⟩
  have hsp1 : m ≠ g2 ∧ m ≠ m2 ∧ m ≠ gq ∧ gr ≠ g2 ∧ gr ≠ m2 ∧ gr ≠ gq := by omega
  have hsp2 : m2 ≠ g ∧ m2 ≠ m ∧ m2 ≠ gr ∧ gq ≠ g ∧ gq ≠ m ∧ gq ≠ gr := by omega
  refine rw_nil ?_
  refine nw_then ?_
  refine cw_seq ?_
  refine cw_seq ?_
  refine cw_region ?_
  refine rw_p 12 (.int .i64 0) (fun _ => by kernel_rfl) (fun _ => by kernel_rfl) ?_
  refine rw_nil ?_
  refine nw_then ?_
  refine cw_block ?_
  have hLn : L.length ≤ n := by omega
  refine cw_loop (X := (Nat × (List Th × Option Addr × Nat × Nat) × (List Th × Option Addr × Nat × Nat))) (fun x : (Nat × (List Th × Option Addr × Nat × Nat) × (List Th × Option Addr × Nat × Nat)) => [(3, .pointer (some ⟨gw, 0, none⟩)), (5, .pointer (some ⟨g, 0, none⟩)), (7, .pointer (some ⟨gr, 0, none⟩)), (10, .pointer (some ⟨g2, 0, none⟩)), (11, .pointer (some ⟨gq, 0, none⟩)), (12, .int .i64 ((x.1 : Nat) : Int))]) (fun (x : (Nat × (List Th × Option Addr × Nat × Nat) × (List Th × Option Addr × Nat × Nat))) v => Al W v g m gr most x.2.1.1 x.2.1.2.1 x.2.1.2.2.1 x.2.1.2.2.2 ∧ Al W v g2 m2 gq most x.2.2.1 x.2.2.2.1 x.2.2.2.2.1 x.2.2.2.2.2 ∧ x.2.1.1.length ≤ n + x.1 ∧ x.2.2.1.length ≤ n + x.1 ∧ x.1 ≤ n2 + n3) (fun x => (n2 - x.1) + (n3 - x.1)) (0, (L, a', n', c'), (L, a', n', c')) (by exact ⟨fun _ => by kernel_rfl, ⟨fun _ => by kernel_rfl, ⟨fun _ => by kernel_rfl, ⟨fun _ => by kernel_rfl, ⟨fun _ => by kernel_rfl, ⟨fun _ => by kernel_rfl, trivial⟩⟩⟩⟩⟩⟩) ⟨hA, hB, hLn, hLn, Nat.zero_le _⟩ ?_
  clear hA hB hst2 hlts hltr hLn hLk
  rintro ⟨k, ⟨L, a', n', c'⟩, ⟨M, b', nb, cb⟩⟩ v ⟨hA, hB, hLk, hMk, hkk⟩
  simp only at hA hB hLk hMk hkk ⊢
  by_cases hk2 : k < n2
  · skip
    by_cases hk3 : k < n3
    · skip
      refine cw_seq ?_
      refine cw_seq ?_
      refine cw_region ?_
      refine rw_p 44 (.int .i64 ((k : Nat) : Int)) (fun _ => by kernel_rfl) (fun _ => by kernel_rfl) ?_
      refine rw_p 45 (.pointer (some ⟨gw, 1, none⟩)) (fun _ => by kernel_rfl) (fun _ => by kernel_rfl) ?_
      refine rw_p 46 (.slice a2 n2 c2) (fun _ => by kernel_rfl) (fun _ => ol_cell 22 _ ⟨gw, 1, none⟩ _ _ rfl (by kernel_rfl) (by rw [cell_of_row _ _ _ _ _ _ (hwb _ hA.bel)]; rfl) Try.underlying22 rfl) ?_
      refine rw_p 47 (.int .i64 n2) (fun _ => by kernel_rfl) (fun _ => by kernel_rfl) ?_
      refine rw_p 48 (.bool true) (fun _ => by kernel_rfl) (fun _ => ol_conv (v := .bool (decide (((k : Nat) : Int) < (n2 : Int)))) (by kernel_rfl) (congrArg Value.bool (decide_eq_true (by omega)))) ?_
      refine rw_p 49 (.bool true) (fun _ => by kernel_rfl) (fun _ => by kernel_rfl) ?_
      refine rw_off 50 (fun _ => by kernel_rfl) ?_
      refine rw_off 51 (fun _ => by kernel_rfl) ?_
      refine rw_off 52 (fun _ => by kernel_rfl) ?_
      refine rw_off 53 (fun _ => by kernel_rfl) ?_
      refine rw_off 54 (fun _ => by kernel_rfl) ?_
      refine rw_p 55 (.bool true) (fun _ => by kernel_rfl) (fun _ => by kernel_rfl) ?_
      refine rw_nil ?_
      refine nw_then ?_
      refine cw_cond_t (fun _ => by kernel_rfl) ?_
      refine cw_skip ?_
      refine nw_then ?_
      refine cw_seq ?_
      refine cw_block ?_
      refine cw_seq ?_
      refine cw_seq ?_
      refine cw_region ?_
      refine rw_p 58 (.int .i64 ((k : Nat) : Int)) (fun _ => by kernel_rfl) (fun _ => by kernel_rfl) ?_
      refine rw_p 59 (.pointer (some ⟨gw, 1, none⟩)) (fun _ => by kernel_rfl) (fun _ => by kernel_rfl) ?_
      refine rw_p 60 (.slice a2 n2 c2) (fun _ => by kernel_rfl) (fun _ => ol_cell 22 _ ⟨gw, 1, none⟩ _ _ rfl (by kernel_rfl) (by rw [cell_of_row _ _ _ _ _ _ (hwb _ hA.bel)]; rfl) Try.underlying22 rfl) ?_
      refine rw_p 61 (.int .i64 n2) (fun _ => by kernel_rfl) (fun _ => by kernel_rfl) ?_
      refine rw_p 62 (.bool true) (fun _ => by kernel_rfl) (fun _ => ol_conv (v := .bool (decide (((k : Nat) : Int) < (n2 : Int)))) (by kernel_rfl) (congrArg Value.bool (decide_eq_true (by omega)))) ?_
      refine rw_nil ?_
      refine nw_then ?_
      refine cw_cond_t (fun _ => by kernel_rfl) ?_
      refine cw_seq ?_
      obtain ⟨x2, hx2⟩ : ∃ x, x2s[k]? = some x := ⟨_, List.getElem?_eq_getElem (by rw [← hC2.l]; exact hk2)⟩
      have hxo2 := hC2.ok x2 (List.mem_of_getElem? hx2)
      obtain ⟨gx2, off2, hax2, _⟩ := hC2.rows k x2 hx2
      have hrg2 : ∀ v, Below W.heap.size W v → v.rangeAt gx2 (off2 + k * 35) x2.cells := fun v hb => by have h := (hC2.go hb); rw [hax2] at h; exact h.rng hx2
      refine cw_cut (fun e w' => ∃ az nz cz, e = [(6, .bool true), (3, .pointer (some ⟨gw, 0, none⟩)), (5, .pointer (some ⟨g, 0, none⟩)), (7, .pointer (some ⟨gr, 0, none⟩)), (10, .pointer (some ⟨g2, 0, none⟩)), (11, .pointer (some ⟨gq, 0, none⟩)), (12, .int .i64 ((k : Nat) : Int))] ∧ Al W w' g m gr most (stepL most x2 L) az nz cz ∧ Al W w' g2 m2 gq most M b' nb cb) ?_ ?_
      · skip
        refine cw_draw (fun _ => True) (by kernel_rfl) (trivial) ?_
        refine dw_take 0 64 (.pointer (some ⟨g, 0, none⟩)) rfl (by kernel_rfl) (fun _ _ _ h => h) (fun _ => by kernel_rfl) (fun v hv _ => by kernel_rfl) trivial ?_
        refine dw_take 2 66 (.pointer (some ⟨gw, 1, none⟩)) rfl (by kernel_rfl) (fun _ _ _ h => h) (fun _ => by kernel_rfl) (fun v hv _ => by kernel_rfl) trivial ?_
        refine dw_take 4 68 (.int .i64 ((k : Nat) : Int)) rfl (by kernel_rfl) (fun _ _ _ h => h) (fun _ => by kernel_rfl) (fun v hv _ => by kernel_rfl) trivial ?_
        refine dw_ready [1, 3] (by kernel_rfl) (by simp) ?_
        refine ar_v 1 65 (.agg #[.int .i64 most, .slice a' n' c']) rfl (fun _ => by kernel_rfl) (fun _ => ol_row 28 _ _ _ _ _ _ rfl (by kernel_rfl) hA.drew.rb Try.underlying28 rfl (by kernel_rfl)) trivial ?_ ?_
        · skip
          refine dw_ready [3] (by kernel_rfl) (by simp) ?_
          refine ar_v 3 67 (.slice (some ⟨gx2, off2, none⟩) n2 c2) rfl (fun _ => by kernel_rfl) (fun _ => ol_cell 22 _ ⟨gw, 1, none⟩ _ _ rfl (by kernel_rfl) (by rw [cell_of_row _ _ _ _ _ _ (hwb _ hA.drew.bel), ← hax2]; rfl) Try.underlying22 rfl) trivial ?_ ar_nil
          refine dw_take 5 69 (.pointer (some ⟨gx2, off2 + k * 35, none⟩)) rfl (by kernel_rfl) (fun _ _ _ h => h) (fun _ => by kernel_rfl) (fun v hv _ => ol_index 22 _ _ gx2 off2 k n2 c2 35 32 rfl (by kernel_rfl) (by kernel_rfl) hk2 Try.underlying22 (by kernel_rfl)) trivial ?_
          refine dw_ready [6] (by kernel_rfl) (by simp) ?_
          refine ar_v 6 70 (.agg x2.cells.toArray) rfl (fun _ => by kernel_rfl) (fun _ => ol_mid 32 _ _ _ _ _ rfl (by kernel_rfl) (hrg2 _ hA.drew.bel) Try.underlying32 rfl (by rw [Cl.clen hxo2.1]; kernel_rfl)) trivial ?_ ar_nil
          refine dw_ready [7] (by kernel_rfl) (by simp) ?_
          refine ar_call 7 71 11 #[.pointer (some ⟨g, 0, none⟩), .agg #[.int .i64 most, .slice a' n' c'], .agg x2.cells.toArray] rfl (fun _ => by kernel_rfl) (fun _ => by kernel_rfl) (R := fun val w' => (∃ az nz cz, val = .tuple #[.agg #[.int .i64 most, .slice az nz cz], .bool true] ∧ Ls w' az nz cz (stepL most x2 L)) ∧ Sto w' g m most (stepL most x2 L) ∧ Touch m v.drew w') ((step_any hA.drew.st hA.drew.ls hA.iv x2 hxo2.1 hxo2.2 (by have := hA.len; omega)).mono (fun e w' h => by obtain ⟨⟨a2, n2, c2, rfl, h1⟩, h2⟩ := h; exact ⟨_, rfl, ⟨a2, n2, c2, rfl, h1⟩, h2⟩)) (fun _ _ _ => trivial) ?_ ar_nil
          rintro val u4 ⟨⟨az, nz, cz, rfl, hls2⟩, hst2, ht2⟩
          refine dw_take 8 63 (.tuple #[.agg #[.int .i64 most, .slice az nz cz], .bool true]) rfl (by kernel_rfl) (fun _ _ _ h => h) (fun _ => by kernel_rfl) (fun v hv _ => by kernel_rfl) trivial ?_
          refine dw_take 9 72 (.agg #[.int .i64 most, .slice az nz cz]) rfl (by kernel_rfl) (fun _ _ _ h => h) (fun _ => by kernel_rfl) (fun v hv _ => by kernel_rfl) trivial ?_
          refine dw_take 10 73 (.bool true) rfl (by kernel_rfl) (fun _ _ _ h => h) (fun _ => by kernel_rfl) (fun v hv _ => by kernel_rfl) trivial ?_
          refine dw_ready [11] (by kernel_rfl) (by simp) ?_
          refine ar_put 11 gr (#[.int .i64 most, .slice az nz cz]) rfl (fun _ => by kernel_rfl) (fun _ => ol_store 28 _ _ _ _ _ _ rfl (by kernel_rfl) (by kernel_rfl) (ht2.row hA.drew.rb hA.ne.2) (by kernel_rfl) rfl (s_one _ _ _ _)) (fun _ _ => trivial) ?_ ar_nil
          intro w5 hp6
          have hS2 := hA.drew.step hst2 hls2 ht2 (stepL_iv hA.iv hxo2.1 hxo2.2) hp6
          have hO2 := Al.other hB.drew hA.drew.st.mp ht2 hp6 (ht2.row hA.drew.rb hA.ne.2) (by simp) hA.hg.2.1 hA.hg.2.2 hsp1
          refine dw_take 12 6 (.bool true) rfl (by kernel_rfl) (fun _ _ _ h => h) (fun _ => by kernel_rfl) (fun v hv _ => by kernel_rfl) trivial ?_
          refine dw_done (by kernel_rfl) ?_
          exact nw_cut [(6, .bool true), (3, .pointer (some ⟨gw, 0, none⟩)), (5, .pointer (some ⟨g, 0, none⟩)), (7, .pointer (some ⟨gr, 0, none⟩)), (10, .pointer (some ⟨g2, 0, none⟩)), (11, .pointer (some ⟨gq, 0, none⟩)), (12, .int .i64 ((k : Nat) : Int))] (by exact ⟨fun _ => by kernel_rfl, ⟨fun _ => by kernel_rfl, ⟨fun _ => by kernel_rfl, ⟨fun _ => by kernel_rfl, ⟨fun _ => by kernel_rfl, ⟨fun _ => by kernel_rfl, ⟨fun _ => by kernel_rfl, trivial⟩⟩⟩⟩⟩⟩⟩) ⟨az, nz, cz, rfl, hS2, hO2⟩
        refine ar_v 3 67 (.slice (some ⟨gx2, off2, none⟩) n2 c2) rfl (fun _ => by kernel_rfl) (fun _ => ol_cell 22 _ ⟨gw, 1, none⟩ _ _ rfl (by kernel_rfl) (by rw [cell_of_row _ _ _ _ _ _ (hwb _ hA.drew.bel), ← hax2]; rfl) Try.underlying22 rfl) trivial ?_ ar_nil
        refine dw_take 5 69 (.pointer (some ⟨gx2, off2 + k * 35, none⟩)) rfl (by kernel_rfl) (fun _ _ _ h => h) (fun _ => by kernel_rfl) (fun v hv _ => ol_index 22 _ _ gx2 off2 k n2 c2 35 32 rfl (by kernel_rfl) (by kernel_rfl) hk2 Try.underlying22 (by kernel_rfl)) trivial ?_
        refine dw_ready [1, 6] (by kernel_rfl) (by simp) ?_
        refine ar_v 1 65 (.agg #[.int .i64 most, .slice a' n' c']) rfl (fun _ => by kernel_rfl) (fun _ => ol_row 28 _ _ _ _ _ _ rfl (by kernel_rfl) hA.drew.rb Try.underlying28 rfl (by kernel_rfl)) trivial ?_ ?_
        · skip
          refine dw_ready [6] (by kernel_rfl) (by simp) ?_
          refine ar_v 6 70 (.agg x2.cells.toArray) rfl (fun _ => by kernel_rfl) (fun _ => ol_mid 32 _ _ _ _ _ rfl (by kernel_rfl) (hrg2 _ hA.drew.bel) Try.underlying32 rfl (by rw [Cl.clen hxo2.1]; kernel_rfl)) trivial ?_ ar_nil
          refine dw_ready [7] (by kernel_rfl) (by simp) ?_
          refine ar_call 7 71 11 #[.pointer (some ⟨g, 0, none⟩), .agg #[.int .i64 most, .slice a' n' c'], .agg x2.cells.toArray] rfl (fun _ => by kernel_rfl) (fun _ => by kernel_rfl) (R := fun val w' => (∃ az nz cz, val = .tuple #[.agg #[.int .i64 most, .slice az nz cz], .bool true] ∧ Ls w' az nz cz (stepL most x2 L)) ∧ Sto w' g m most (stepL most x2 L) ∧ Touch m v.drew w') ((step_any hA.drew.st hA.drew.ls hA.iv x2 hxo2.1 hxo2.2 (by have := hA.len; omega)).mono (fun e w' h => by obtain ⟨⟨a2, n2, c2, rfl, h1⟩, h2⟩ := h; exact ⟨_, rfl, ⟨a2, n2, c2, rfl, h1⟩, h2⟩)) (fun _ _ _ => trivial) ?_ ar_nil
          rintro val u7 ⟨⟨az, nz, cz, rfl, hls2⟩, hst2, ht2⟩
          refine dw_take 8 63 (.tuple #[.agg #[.int .i64 most, .slice az nz cz], .bool true]) rfl (by kernel_rfl) (fun _ _ _ h => h) (fun _ => by kernel_rfl) (fun v hv _ => by kernel_rfl) trivial ?_
          refine dw_take 9 72 (.agg #[.int .i64 most, .slice az nz cz]) rfl (by kernel_rfl) (fun _ _ _ h => h) (fun _ => by kernel_rfl) (fun v hv _ => by kernel_rfl) trivial ?_
          refine dw_take 10 73 (.bool true) rfl (by kernel_rfl) (fun _ _ _ h => h) (fun _ => by kernel_rfl) (fun v hv _ => by kernel_rfl) trivial ?_
          refine dw_ready [11] (by kernel_rfl) (by simp) ?_
          refine ar_put 11 gr (#[.int .i64 most, .slice az nz cz]) rfl (fun _ => by kernel_rfl) (fun _ => ol_store 28 _ _ _ _ _ _ rfl (by kernel_rfl) (by kernel_rfl) (ht2.row hA.drew.rb hA.ne.2) (by kernel_rfl) rfl (s_one _ _ _ _)) (fun _ _ => trivial) ?_ ar_nil
          intro w8 hp9
          have hS2 := hA.drew.step hst2 hls2 ht2 (stepL_iv hA.iv hxo2.1 hxo2.2) hp9
          have hO2 := Al.other hB.drew hA.drew.st.mp ht2 hp9 (ht2.row hA.drew.rb hA.ne.2) (by simp) hA.hg.2.1 hA.hg.2.2 hsp1
          refine dw_take 12 6 (.bool true) rfl (by kernel_rfl) (fun _ _ _ h => h) (fun _ => by kernel_rfl) (fun v hv _ => by kernel_rfl) trivial ?_
          refine dw_done (by kernel_rfl) ?_
          exact nw_cut [(6, .bool true), (3, .pointer (some ⟨gw, 0, none⟩)), (5, .pointer (some ⟨g, 0, none⟩)), (7, .pointer (some ⟨gr, 0, none⟩)), (10, .pointer (some ⟨g2, 0, none⟩)), (11, .pointer (some ⟨gq, 0, none⟩)), (12, .int .i64 ((k : Nat) : Int))] (by exact ⟨fun _ => by kernel_rfl, ⟨fun _ => by kernel_rfl, ⟨fun _ => by kernel_rfl, ⟨fun _ => by kernel_rfl, ⟨fun _ => by kernel_rfl, ⟨fun _ => by kernel_rfl, ⟨fun _ => by kernel_rfl, trivial⟩⟩⟩⟩⟩⟩⟩) ⟨az, nz, cz, rfl, hS2, hO2⟩
        refine ar_v 6 70 (.agg x2.cells.toArray) rfl (fun _ => by kernel_rfl) (fun _ => ol_mid 32 _ _ _ _ _ rfl (by kernel_rfl) (hrg2 _ hA.drew.bel) Try.underlying32 rfl (by rw [Cl.clen hxo2.1]; kernel_rfl)) trivial ?_ ar_nil
        refine dw_ready [1] (by kernel_rfl) (by simp) ?_
        refine ar_v 1 65 (.agg #[.int .i64 most, .slice a' n' c']) rfl (fun _ => by kernel_rfl) (fun _ => ol_row 28 _ _ _ _ _ _ rfl (by kernel_rfl) hA.drew.rb Try.underlying28 rfl (by kernel_rfl)) trivial ?_ ar_nil
        refine dw_ready [7] (by kernel_rfl) (by simp) ?_
        refine ar_call 7 71 11 #[.pointer (some ⟨g, 0, none⟩), .agg #[.int .i64 most, .slice a' n' c'], .agg x2.cells.toArray] rfl (fun _ => by kernel_rfl) (fun _ => by kernel_rfl) (R := fun val w' => (∃ az nz cz, val = .tuple #[.agg #[.int .i64 most, .slice az nz cz], .bool true] ∧ Ls w' az nz cz (stepL most x2 L)) ∧ Sto w' g m most (stepL most x2 L) ∧ Touch m v.drew w') ((step_any hA.drew.st hA.drew.ls hA.iv x2 hxo2.1 hxo2.2 (by have := hA.len; omega)).mono (fun e w' h => by obtain ⟨⟨a2, n2, c2, rfl, h1⟩, h2⟩ := h; exact ⟨_, rfl, ⟨a2, n2, c2, rfl, h1⟩, h2⟩)) (fun _ _ _ => trivial) ?_ ar_nil
        rintro val u10 ⟨⟨az, nz, cz, rfl, hls2⟩, hst2, ht2⟩
        refine dw_take 8 63 (.tuple #[.agg #[.int .i64 most, .slice az nz cz], .bool true]) rfl (by kernel_rfl) (fun _ _ _ h => h) (fun _ => by kernel_rfl) (fun v hv _ => by kernel_rfl) trivial ?_
        refine dw_take 9 72 (.agg #[.int .i64 most, .slice az nz cz]) rfl (by kernel_rfl) (fun _ _ _ h => h) (fun _ => by kernel_rfl) (fun v hv _ => by kernel_rfl) trivial ?_
        refine dw_take 10 73 (.bool true) rfl (by kernel_rfl) (fun _ _ _ h => h) (fun _ => by kernel_rfl) (fun v hv _ => by kernel_rfl) trivial ?_
        refine dw_ready [11] (by kernel_rfl) (by simp) ?_
        refine ar_put 11 gr (#[.int .i64 most, .slice az nz cz]) rfl (fun _ => by kernel_rfl) (fun _ => ol_store 28 _ _ _ _ _ _ rfl (by kernel_rfl) (by kernel_rfl) (ht2.row hA.drew.rb hA.ne.2) (by kernel_rfl) rfl (s_one _ _ _ _)) (fun _ _ => trivial) ?_ ar_nil
        intro w11 hp12
        have hS2 := hA.drew.step hst2 hls2 ht2 (stepL_iv hA.iv hxo2.1 hxo2.2) hp12
        have hO2 := Al.other hB.drew hA.drew.st.mp ht2 hp12 (ht2.row hA.drew.rb hA.ne.2) (by simp) hA.hg.2.1 hA.hg.2.2 hsp1
        refine dw_take 12 6 (.bool true) rfl (by kernel_rfl) (fun _ _ _ h => h) (fun _ => by kernel_rfl) (fun v hv _ => by kernel_rfl) trivial ?_
        refine dw_done (by kernel_rfl) ?_
        exact nw_cut [(6, .bool true), (3, .pointer (some ⟨gw, 0, none⟩)), (5, .pointer (some ⟨g, 0, none⟩)), (7, .pointer (some ⟨gr, 0, none⟩)), (10, .pointer (some ⟨g2, 0, none⟩)), (11, .pointer (some ⟨gq, 0, none⟩)), (12, .int .i64 ((k : Nat) : Int))] (by exact ⟨fun _ => by kernel_rfl, ⟨fun _ => by kernel_rfl, ⟨fun _ => by kernel_rfl, ⟨fun _ => by kernel_rfl, ⟨fun _ => by kernel_rfl, ⟨fun _ => by kernel_rfl, ⟨fun _ => by kernel_rfl, trivial⟩⟩⟩⟩⟩⟩⟩) ⟨az, nz, cz, rfl, hS2, hO2⟩
      rintro e v ⟨az2, nz2, cz2, rfl, hSz2, hOz2⟩
      have hllz2 := stepL_len most x2 L
      clear hA hB
      have hA := hSz2
      have hB := hOz2
      clear hSz2 hOz2
      refine nw_then ?_
      refine cw_seq ?_
      refine cw_region ?_
      refine rw_p 74 (.bool true) (fun _ => by kernel_rfl) (fun _ => by kernel_rfl) ?_
      refine rw_p 75 (.bool false) (fun _ => by kernel_rfl) (fun _ => by kernel_rfl) ?_
      refine rw_nil ?_
      refine nw_then ?_
      refine cw_cond_f (fun _ => by kernel_rfl) ?_
      refine cw_skip ?_
      refine nw_then ?_
      refine cw_seq ?_
      refine cw_region ?_
      refine rw_p 76 (.int .i64 ((k : Nat) : Int)) (fun _ => by kernel_rfl) (fun _ => by kernel_rfl) ?_
      refine rw_p 77 (.pointer (some ⟨gw, 2, none⟩)) (fun _ => by kernel_rfl) (fun _ => by kernel_rfl) ?_
      refine rw_p 78 (.slice a3 n3 c3) (fun _ => by kernel_rfl) (fun _ => ol_cell 22 _ ⟨gw, 2, none⟩ _ _ rfl (by kernel_rfl) (by rw [cell_of_row _ _ _ _ _ _ (hwb _ hA.bel)]; rfl) Try.underlying22 rfl) ?_
      refine rw_p 79 (.int .i64 n3) (fun _ => by kernel_rfl) (fun _ => by kernel_rfl) ?_
      refine rw_p 80 (.bool true) (fun _ => by kernel_rfl) (fun _ => ol_conv (v := .bool (decide (((k : Nat) : Int) < (n3 : Int)))) (by kernel_rfl) (congrArg Value.bool (decide_eq_true (by omega)))) ?_
      refine rw_nil ?_
      refine nw_then ?_
      refine cw_cond_t (fun _ => by kernel_rfl) ?_
      refine cw_seq ?_
      obtain ⟨x3, hx3⟩ : ∃ x, x3s[k]? = some x := ⟨_, List.getElem?_eq_getElem (by rw [← hC3.l]; exact hk3)⟩
      have hxo3 := hC3.ok x3 (List.mem_of_getElem? hx3)
      obtain ⟨gx3, off3, hax3, _⟩ := hC3.rows k x3 hx3
      have hrg3 : ∀ v, Below W.heap.size W v → v.rangeAt gx3 (off3 + k * 35) x3.cells := fun v hb => by have h := (hC3.go hb); rw [hax3] at h; exact h.rng hx3
      refine cw_cut (fun e w' => ∃ az nz cz, e = [(6, .bool true), (3, .pointer (some ⟨gw, 0, none⟩)), (5, .pointer (some ⟨g, 0, none⟩)), (7, .pointer (some ⟨gr, 0, none⟩)), (10, .pointer (some ⟨g2, 0, none⟩)), (11, .pointer (some ⟨gq, 0, none⟩)), (12, .int .i64 ((k : Nat) : Int))] ∧ Al W w' g2 m2 gq most (stepL most x3 M) az nz cz ∧ Al W w' g m gr most (stepL most x2 L) az2 nz2 cz2) ?_ ?_
      · skip
        refine cw_draw (fun _ => True) (by kernel_rfl) (trivial) ?_
        refine dw_take 0 82 (.pointer (some ⟨g2, 0, none⟩)) rfl (by kernel_rfl) (fun _ _ _ h => h) (fun _ => by kernel_rfl) (fun v hv _ => by kernel_rfl) trivial ?_
        refine dw_take 2 84 (.pointer (some ⟨gw, 2, none⟩)) rfl (by kernel_rfl) (fun _ _ _ h => h) (fun _ => by kernel_rfl) (fun v hv _ => by kernel_rfl) trivial ?_
        refine dw_take 4 86 (.int .i64 ((k : Nat) : Int)) rfl (by kernel_rfl) (fun _ _ _ h => h) (fun _ => by kernel_rfl) (fun v hv _ => by kernel_rfl) trivial ?_
        refine dw_ready [1, 3] (by kernel_rfl) (by simp) ?_
        refine ar_v 1 83 (.agg #[.int .i64 most, .slice b' nb cb]) rfl (fun _ => by kernel_rfl) (fun _ => ol_row 28 _ _ _ _ _ _ rfl (by kernel_rfl) hB.drew.rb Try.underlying28 rfl (by kernel_rfl)) trivial ?_ ?_
        · skip
          refine dw_ready [3] (by kernel_rfl) (by simp) ?_
          refine ar_v 3 85 (.slice (some ⟨gx3, off3, none⟩) n3 c3) rfl (fun _ => by kernel_rfl) (fun _ => ol_cell 22 _ ⟨gw, 2, none⟩ _ _ rfl (by kernel_rfl) (by rw [cell_of_row _ _ _ _ _ _ (hwb _ hB.drew.bel), ← hax3]; rfl) Try.underlying22 rfl) trivial ?_ ar_nil
          refine dw_take 5 87 (.pointer (some ⟨gx3, off3 + k * 35, none⟩)) rfl (by kernel_rfl) (fun _ _ _ h => h) (fun _ => by kernel_rfl) (fun v hv _ => ol_index 22 _ _ gx3 off3 k n3 c3 35 32 rfl (by kernel_rfl) (by kernel_rfl) hk3 Try.underlying22 (by kernel_rfl)) trivial ?_
          refine dw_ready [6] (by kernel_rfl) (by simp) ?_
          refine ar_v 6 88 (.agg x3.cells.toArray) rfl (fun _ => by kernel_rfl) (fun _ => ol_mid 32 _ _ _ _ _ rfl (by kernel_rfl) (hrg3 _ hB.drew.bel) Try.underlying32 rfl (by rw [Cl.clen hxo3.1]; kernel_rfl)) trivial ?_ ar_nil
          refine dw_ready [7] (by kernel_rfl) (by simp) ?_
          refine ar_call 7 89 11 #[.pointer (some ⟨g2, 0, none⟩), .agg #[.int .i64 most, .slice b' nb cb], .agg x3.cells.toArray] rfl (fun _ => by kernel_rfl) (fun _ => by kernel_rfl) (R := fun val w' => (∃ az nz cz, val = .tuple #[.agg #[.int .i64 most, .slice az nz cz], .bool true] ∧ Ls w' az nz cz (stepL most x3 M)) ∧ Sto w' g2 m2 most (stepL most x3 M) ∧ Touch m2 v.drew w') ((step_any hB.drew.st hB.drew.ls hB.iv x3 hxo3.1 hxo3.2 (by have := hB.len; omega)).mono (fun e w' h => by obtain ⟨⟨a2, n2, c2, rfl, h1⟩, h2⟩ := h; exact ⟨_, rfl, ⟨a2, n2, c2, rfl, h1⟩, h2⟩)) (fun _ _ _ => trivial) ?_ ar_nil
          rintro val u13 ⟨⟨az, nz, cz, rfl, hls2⟩, hst2, ht2⟩
          refine dw_take 8 81 (.tuple #[.agg #[.int .i64 most, .slice az nz cz], .bool true]) rfl (by kernel_rfl) (fun _ _ _ h => h) (fun _ => by kernel_rfl) (fun v hv _ => by kernel_rfl) trivial ?_
          refine dw_take 9 90 (.agg #[.int .i64 most, .slice az nz cz]) rfl (by kernel_rfl) (fun _ _ _ h => h) (fun _ => by kernel_rfl) (fun v hv _ => by kernel_rfl) trivial ?_
          refine dw_take 10 91 (.bool true) rfl (by kernel_rfl) (fun _ _ _ h => h) (fun _ => by kernel_rfl) (fun v hv _ => by kernel_rfl) trivial ?_
          refine dw_ready [11] (by kernel_rfl) (by simp) ?_
          refine ar_put 11 gq (#[.int .i64 most, .slice az nz cz]) rfl (fun _ => by kernel_rfl) (fun _ => ol_store 28 _ _ _ _ _ _ rfl (by kernel_rfl) (by kernel_rfl) (ht2.row hB.drew.rb hB.ne.2) (by kernel_rfl) rfl (s_one _ _ _ _)) (fun _ _ => trivial) ?_ ar_nil
          intro w14 hp15
          have hS2 := hB.drew.step hst2 hls2 ht2 (stepL_iv hB.iv hxo3.1 hxo3.2) hp15
          have hO2 := Al.other hA.drew hB.drew.st.mp ht2 hp15 (ht2.row hB.drew.rb hB.ne.2) (by simp) hB.hg.2.1 hB.hg.2.2 hsp2
          refine dw_take 12 6 (.bool true) rfl (by kernel_rfl) (fun _ _ _ h => h) (fun _ => by kernel_rfl) (fun v hv _ => by kernel_rfl) trivial ?_
          refine dw_done (by kernel_rfl) ?_
          exact nw_cut [(6, .bool true), (3, .pointer (some ⟨gw, 0, none⟩)), (5, .pointer (some ⟨g, 0, none⟩)), (7, .pointer (some ⟨gr, 0, none⟩)), (10, .pointer (some ⟨g2, 0, none⟩)), (11, .pointer (some ⟨gq, 0, none⟩)), (12, .int .i64 ((k : Nat) : Int))] (by exact ⟨fun _ => by kernel_rfl, ⟨fun _ => by kernel_rfl, ⟨fun _ => by kernel_rfl, ⟨fun _ => by kernel_rfl, ⟨fun _ => by kernel_rfl, ⟨fun _ => by kernel_rfl, ⟨fun _ => by kernel_rfl, trivial⟩⟩⟩⟩⟩⟩⟩) ⟨az, nz, cz, rfl, hS2, hO2⟩
        refine ar_v 3 85 (.slice (some ⟨gx3, off3, none⟩) n3 c3) rfl (fun _ => by kernel_rfl) (fun _ => ol_cell 22 _ ⟨gw, 2, none⟩ _ _ rfl (by kernel_rfl) (by rw [cell_of_row _ _ _ _ _ _ (hwb _ hB.drew.bel), ← hax3]; rfl) Try.underlying22 rfl) trivial ?_ ar_nil
        refine dw_take 5 87 (.pointer (some ⟨gx3, off3 + k * 35, none⟩)) rfl (by kernel_rfl) (fun _ _ _ h => h) (fun _ => by kernel_rfl) (fun v hv _ => ol_index 22 _ _ gx3 off3 k n3 c3 35 32 rfl (by kernel_rfl) (by kernel_rfl) hk3 Try.underlying22 (by kernel_rfl)) trivial ?_
        refine dw_ready [1, 6] (by kernel_rfl) (by simp) ?_
        refine ar_v 1 83 (.agg #[.int .i64 most, .slice b' nb cb]) rfl (fun _ => by kernel_rfl) (fun _ => ol_row 28 _ _ _ _ _ _ rfl (by kernel_rfl) hB.drew.rb Try.underlying28 rfl (by kernel_rfl)) trivial ?_ ?_
        · skip
          refine dw_ready [6] (by kernel_rfl) (by simp) ?_
          refine ar_v 6 88 (.agg x3.cells.toArray) rfl (fun _ => by kernel_rfl) (fun _ => ol_mid 32 _ _ _ _ _ rfl (by kernel_rfl) (hrg3 _ hB.drew.bel) Try.underlying32 rfl (by rw [Cl.clen hxo3.1]; kernel_rfl)) trivial ?_ ar_nil
          refine dw_ready [7] (by kernel_rfl) (by simp) ?_
          refine ar_call 7 89 11 #[.pointer (some ⟨g2, 0, none⟩), .agg #[.int .i64 most, .slice b' nb cb], .agg x3.cells.toArray] rfl (fun _ => by kernel_rfl) (fun _ => by kernel_rfl) (R := fun val w' => (∃ az nz cz, val = .tuple #[.agg #[.int .i64 most, .slice az nz cz], .bool true] ∧ Ls w' az nz cz (stepL most x3 M)) ∧ Sto w' g2 m2 most (stepL most x3 M) ∧ Touch m2 v.drew w') ((step_any hB.drew.st hB.drew.ls hB.iv x3 hxo3.1 hxo3.2 (by have := hB.len; omega)).mono (fun e w' h => by obtain ⟨⟨a2, n2, c2, rfl, h1⟩, h2⟩ := h; exact ⟨_, rfl, ⟨a2, n2, c2, rfl, h1⟩, h2⟩)) (fun _ _ _ => trivial) ?_ ar_nil
          rintro val u16 ⟨⟨az, nz, cz, rfl, hls2⟩, hst2, ht2⟩
          refine dw_take 8 81 (.tuple #[.agg #[.int .i64 most, .slice az nz cz], .bool true]) rfl (by kernel_rfl) (fun _ _ _ h => h) (fun _ => by kernel_rfl) (fun v hv _ => by kernel_rfl) trivial ?_
          refine dw_take 9 90 (.agg #[.int .i64 most, .slice az nz cz]) rfl (by kernel_rfl) (fun _ _ _ h => h) (fun _ => by kernel_rfl) (fun v hv _ => by kernel_rfl) trivial ?_
          refine dw_take 10 91 (.bool true) rfl (by kernel_rfl) (fun _ _ _ h => h) (fun _ => by kernel_rfl) (fun v hv _ => by kernel_rfl) trivial ?_
          refine dw_ready [11] (by kernel_rfl) (by simp) ?_
          refine ar_put 11 gq (#[.int .i64 most, .slice az nz cz]) rfl (fun _ => by kernel_rfl) (fun _ => ol_store 28 _ _ _ _ _ _ rfl (by kernel_rfl) (by kernel_rfl) (ht2.row hB.drew.rb hB.ne.2) (by kernel_rfl) rfl (s_one _ _ _ _)) (fun _ _ => trivial) ?_ ar_nil
          intro w17 hp18
          have hS2 := hB.drew.step hst2 hls2 ht2 (stepL_iv hB.iv hxo3.1 hxo3.2) hp18
          have hO2 := Al.other hA.drew hB.drew.st.mp ht2 hp18 (ht2.row hB.drew.rb hB.ne.2) (by simp) hB.hg.2.1 hB.hg.2.2 hsp2
          refine dw_take 12 6 (.bool true) rfl (by kernel_rfl) (fun _ _ _ h => h) (fun _ => by kernel_rfl) (fun v hv _ => by kernel_rfl) trivial ?_
          refine dw_done (by kernel_rfl) ?_
          exact nw_cut [(6, .bool true), (3, .pointer (some ⟨gw, 0, none⟩)), (5, .pointer (some ⟨g, 0, none⟩)), (7, .pointer (some ⟨gr, 0, none⟩)), (10, .pointer (some ⟨g2, 0, none⟩)), (11, .pointer (some ⟨gq, 0, none⟩)), (12, .int .i64 ((k : Nat) : Int))] (by exact ⟨fun _ => by kernel_rfl, ⟨fun _ => by kernel_rfl, ⟨fun _ => by kernel_rfl, ⟨fun _ => by kernel_rfl, ⟨fun _ => by kernel_rfl, ⟨fun _ => by kernel_rfl, ⟨fun _ => by kernel_rfl, trivial⟩⟩⟩⟩⟩⟩⟩) ⟨az, nz, cz, rfl, hS2, hO2⟩
        refine ar_v 6 88 (.agg x3.cells.toArray) rfl (fun _ => by kernel_rfl) (fun _ => ol_mid 32 _ _ _ _ _ rfl (by kernel_rfl) (hrg3 _ hB.drew.bel) Try.underlying32 rfl (by rw [Cl.clen hxo3.1]; kernel_rfl)) trivial ?_ ar_nil
        refine dw_ready [1] (by kernel_rfl) (by simp) ?_
        refine ar_v 1 83 (.agg #[.int .i64 most, .slice b' nb cb]) rfl (fun _ => by kernel_rfl) (fun _ => ol_row 28 _ _ _ _ _ _ rfl (by kernel_rfl) hB.drew.rb Try.underlying28 rfl (by kernel_rfl)) trivial ?_ ar_nil
        refine dw_ready [7] (by kernel_rfl) (by simp) ?_
        refine ar_call 7 89 11 #[.pointer (some ⟨g2, 0, none⟩), .agg #[.int .i64 most, .slice b' nb cb], .agg x3.cells.toArray] rfl (fun _ => by kernel_rfl) (fun _ => by kernel_rfl) (R := fun val w' => (∃ az nz cz, val = .tuple #[.agg #[.int .i64 most, .slice az nz cz], .bool true] ∧ Ls w' az nz cz (stepL most x3 M)) ∧ Sto w' g2 m2 most (stepL most x3 M) ∧ Touch m2 v.drew w') ((step_any hB.drew.st hB.drew.ls hB.iv x3 hxo3.1 hxo3.2 (by have := hB.len; omega)).mono (fun e w' h => by obtain ⟨⟨a2, n2, c2, rfl, h1⟩, h2⟩ := h; exact ⟨_, rfl, ⟨a2, n2, c2, rfl, h1⟩, h2⟩)) (fun _ _ _ => trivial) ?_ ar_nil
        rintro val u19 ⟨⟨az, nz, cz, rfl, hls2⟩, hst2, ht2⟩
        refine dw_take 8 81 (.tuple #[.agg #[.int .i64 most, .slice az nz cz], .bool true]) rfl (by kernel_rfl) (fun _ _ _ h => h) (fun _ => by kernel_rfl) (fun v hv _ => by kernel_rfl) trivial ?_
        refine dw_take 9 90 (.agg #[.int .i64 most, .slice az nz cz]) rfl (by kernel_rfl) (fun _ _ _ h => h) (fun _ => by kernel_rfl) (fun v hv _ => by kernel_rfl) trivial ?_
        refine dw_take 10 91 (.bool true) rfl (by kernel_rfl) (fun _ _ _ h => h) (fun _ => by kernel_rfl) (fun v hv _ => by kernel_rfl) trivial ?_
        refine dw_ready [11] (by kernel_rfl) (by simp) ?_
        refine ar_put 11 gq (#[.int .i64 most, .slice az nz cz]) rfl (fun _ => by kernel_rfl) (fun _ => ol_store 28 _ _ _ _ _ _ rfl (by kernel_rfl) (by kernel_rfl) (ht2.row hB.drew.rb hB.ne.2) (by kernel_rfl) rfl (s_one _ _ _ _)) (fun _ _ => trivial) ?_ ar_nil
        intro w20 hp21
        have hS2 := hB.drew.step hst2 hls2 ht2 (stepL_iv hB.iv hxo3.1 hxo3.2) hp21
        have hO2 := Al.other hA.drew hB.drew.st.mp ht2 hp21 (ht2.row hB.drew.rb hB.ne.2) (by simp) hB.hg.2.1 hB.hg.2.2 hsp2
        refine dw_take 12 6 (.bool true) rfl (by kernel_rfl) (fun _ _ _ h => h) (fun _ => by kernel_rfl) (fun v hv _ => by kernel_rfl) trivial ?_
        refine dw_done (by kernel_rfl) ?_
        exact nw_cut [(6, .bool true), (3, .pointer (some ⟨gw, 0, none⟩)), (5, .pointer (some ⟨g, 0, none⟩)), (7, .pointer (some ⟨gr, 0, none⟩)), (10, .pointer (some ⟨g2, 0, none⟩)), (11, .pointer (some ⟨gq, 0, none⟩)), (12, .int .i64 ((k : Nat) : Int))] (by exact ⟨fun _ => by kernel_rfl, ⟨fun _ => by kernel_rfl, ⟨fun _ => by kernel_rfl, ⟨fun _ => by kernel_rfl, ⟨fun _ => by kernel_rfl, ⟨fun _ => by kernel_rfl, ⟨fun _ => by kernel_rfl, trivial⟩⟩⟩⟩⟩⟩⟩) ⟨az, nz, cz, rfl, hS2, hO2⟩
      rintro e v ⟨az3, nz3, cz3, rfl, hSz3, hOz3⟩
      have hllz3 := stepL_len most x3 M
      clear hA hB
      have hA := hOz3
      have hB := hSz3
      clear hSz3 hOz3
      refine nw_then ?_
      refine cw_seq ?_
      refine cw_region ?_
      refine rw_p 92 (.bool true) (fun _ => by kernel_rfl) (fun _ => by kernel_rfl) ?_
      refine rw_p 93 (.bool false) (fun _ => by kernel_rfl) (fun _ => by kernel_rfl) ?_
      refine rw_nil ?_
      refine nw_then ?_
      refine cw_cond_f (fun _ => by kernel_rfl) ?_
      refine cw_skip ?_
      refine nw_block ?_
      refine nw_then ?_
      refine cw_region ?_
      refine rw_p 56 (.int .i64 ((k : Nat) : Int)) (fun _ => by kernel_rfl) (fun _ => by kernel_rfl) ?_
      refine rw_p 57 (.int .i64 (((k : Nat) : Int) + 1)) (fun _ => by kernel_rfl) (fun _ => ol_conv (v := .int .i64 (IntKind.i64.wrap (((k : Nat) : Int) + 1))) (by kernel_rfl) (congrArg (Value.int .i64) (wrap64 (by omega) (by omega)))) ?_
      refine rw_p 12 (.int .i64 (((k : Nat) : Int) + 1)) (fun _ => by kernel_rfl) (fun _ => by kernel_rfl) ?_
      refine rw_nil ?_
      exact nw_round (E := fun x : (Nat × (List Th × Option Addr × Nat × Nat) × (List Th × Option Addr × Nat × Nat)) => [(3, .pointer (some ⟨gw, 0, none⟩)), (5, .pointer (some ⟨g, 0, none⟩)), (7, .pointer (some ⟨gr, 0, none⟩)), (10, .pointer (some ⟨g2, 0, none⟩)), (11, .pointer (some ⟨gq, 0, none⟩)), (12, .int .i64 ((x.1 : Nat) : Int))]) (R := fun (x : (Nat × (List Th × Option Addr × Nat × Nat) × (List Th × Option Addr × Nat × Nat))) v => Al W v g m gr most x.2.1.1 x.2.1.2.1 x.2.1.2.2.1 x.2.1.2.2.2 ∧ Al W v g2 m2 gq most x.2.2.1 x.2.2.2.1 x.2.2.2.2.1 x.2.2.2.2.2 ∧ x.2.1.1.length ≤ n + x.1 ∧ x.2.2.1.length ≤ n + x.1 ∧ x.1 ≤ n2 + n3) (μ := fun x => (n2 - x.1) + (n3 - x.1)) (x := (k, (L, a', n', c'), (M, b', nb, cb))) (k + 1, (stepL most x2 L, az2, nz2, cz2), (stepL most x3 M, az3, nz3, cz3)) (by exact ⟨fun _ => by kernel_rfl, ⟨fun _ => by kernel_rfl, ⟨fun _ => by kernel_rfl, ⟨fun _ => by kernel_rfl, ⟨fun _ => by kernel_rfl, ⟨fun _ => by kernel_rfl, trivial⟩⟩⟩⟩⟩⟩) ⟨hA, hB, by simp only; omega, by simp only; omega, by simp only; omega⟩ (by simp only; omega)
    refine cw_seq ?_
    refine cw_seq ?_
    refine cw_region ?_
    refine rw_p 44 (.int .i64 ((k : Nat) : Int)) (fun _ => by kernel_rfl) (fun _ => by kernel_rfl) ?_
    refine rw_p 45 (.pointer (some ⟨gw, 1, none⟩)) (fun _ => by kernel_rfl) (fun _ => by kernel_rfl) ?_
    refine rw_p 46 (.slice a2 n2 c2) (fun _ => by kernel_rfl) (fun _ => ol_cell 22 _ ⟨gw, 1, none⟩ _ _ rfl (by kernel_rfl) (by rw [cell_of_row _ _ _ _ _ _ (hwb _ hA.bel)]; rfl) Try.underlying22 rfl) ?_
    refine rw_p 47 (.int .i64 n2) (fun _ => by kernel_rfl) (fun _ => by kernel_rfl) ?_
    refine rw_p 48 (.bool true) (fun _ => by kernel_rfl) (fun _ => ol_conv (v := .bool (decide (((k : Nat) : Int) < (n2 : Int)))) (by kernel_rfl) (congrArg Value.bool (decide_eq_true (by omega)))) ?_
    refine rw_p 49 (.bool true) (fun _ => by kernel_rfl) (fun _ => by kernel_rfl) ?_
    refine rw_off 50 (fun _ => by kernel_rfl) ?_
    refine rw_off 51 (fun _ => by kernel_rfl) ?_
    refine rw_off 52 (fun _ => by kernel_rfl) ?_
    refine rw_off 53 (fun _ => by kernel_rfl) ?_
    refine rw_off 54 (fun _ => by kernel_rfl) ?_
    refine rw_p 55 (.bool true) (fun _ => by kernel_rfl) (fun _ => by kernel_rfl) ?_
    refine rw_nil ?_
    refine nw_then ?_
    refine cw_cond_t (fun _ => by kernel_rfl) ?_
    refine cw_skip ?_
    refine nw_then ?_
    refine cw_seq ?_
    refine cw_block ?_
    refine cw_seq ?_
    refine cw_seq ?_
    refine cw_region ?_
    refine rw_p 58 (.int .i64 ((k : Nat) : Int)) (fun _ => by kernel_rfl) (fun _ => by kernel_rfl) ?_
    refine rw_p 59 (.pointer (some ⟨gw, 1, none⟩)) (fun _ => by kernel_rfl) (fun _ => by kernel_rfl) ?_
    refine rw_p 60 (.slice a2 n2 c2) (fun _ => by kernel_rfl) (fun _ => ol_cell 22 _ ⟨gw, 1, none⟩ _ _ rfl (by kernel_rfl) (by rw [cell_of_row _ _ _ _ _ _ (hwb _ hA.bel)]; rfl) Try.underlying22 rfl) ?_
    refine rw_p 61 (.int .i64 n2) (fun _ => by kernel_rfl) (fun _ => by kernel_rfl) ?_
    refine rw_p 62 (.bool true) (fun _ => by kernel_rfl) (fun _ => ol_conv (v := .bool (decide (((k : Nat) : Int) < (n2 : Int)))) (by kernel_rfl) (congrArg Value.bool (decide_eq_true (by omega)))) ?_
    refine rw_nil ?_
    refine nw_then ?_
    refine cw_cond_t (fun _ => by kernel_rfl) ?_
    refine cw_seq ?_
    obtain ⟨x2, hx2⟩ : ∃ x, x2s[k]? = some x := ⟨_, List.getElem?_eq_getElem (by rw [← hC2.l]; exact hk2)⟩
    have hxo2 := hC2.ok x2 (List.mem_of_getElem? hx2)
    obtain ⟨gx2, off2, hax2, _⟩ := hC2.rows k x2 hx2
    have hrg2 : ∀ v, Below W.heap.size W v → v.rangeAt gx2 (off2 + k * 35) x2.cells := fun v hb => by have h := (hC2.go hb); rw [hax2] at h; exact h.rng hx2
    refine cw_cut (fun e w' => ∃ az nz cz, e = [(6, .bool true), (3, .pointer (some ⟨gw, 0, none⟩)), (5, .pointer (some ⟨g, 0, none⟩)), (7, .pointer (some ⟨gr, 0, none⟩)), (10, .pointer (some ⟨g2, 0, none⟩)), (11, .pointer (some ⟨gq, 0, none⟩)), (12, .int .i64 ((k : Nat) : Int))] ∧ Al W w' g m gr most (stepL most x2 L) az nz cz ∧ Al W w' g2 m2 gq most M b' nb cb) ?_ ?_
    · skip
      refine cw_draw (fun _ => True) (by kernel_rfl) (trivial) ?_
      refine dw_take 0 64 (.pointer (some ⟨g, 0, none⟩)) rfl (by kernel_rfl) (fun _ _ _ h => h) (fun _ => by kernel_rfl) (fun v hv _ => by kernel_rfl) trivial ?_
      refine dw_take 2 66 (.pointer (some ⟨gw, 1, none⟩)) rfl (by kernel_rfl) (fun _ _ _ h => h) (fun _ => by kernel_rfl) (fun v hv _ => by kernel_rfl) trivial ?_
      refine dw_take 4 68 (.int .i64 ((k : Nat) : Int)) rfl (by kernel_rfl) (fun _ _ _ h => h) (fun _ => by kernel_rfl) (fun v hv _ => by kernel_rfl) trivial ?_
      refine dw_ready [1, 3] (by kernel_rfl) (by simp) ?_
      refine ar_v 1 65 (.agg #[.int .i64 most, .slice a' n' c']) rfl (fun _ => by kernel_rfl) (fun _ => ol_row 28 _ _ _ _ _ _ rfl (by kernel_rfl) hA.drew.rb Try.underlying28 rfl (by kernel_rfl)) trivial ?_ ?_
      · skip
        refine dw_ready [3] (by kernel_rfl) (by simp) ?_
        refine ar_v 3 67 (.slice (some ⟨gx2, off2, none⟩) n2 c2) rfl (fun _ => by kernel_rfl) (fun _ => ol_cell 22 _ ⟨gw, 1, none⟩ _ _ rfl (by kernel_rfl) (by rw [cell_of_row _ _ _ _ _ _ (hwb _ hA.drew.bel), ← hax2]; rfl) Try.underlying22 rfl) trivial ?_ ar_nil
        refine dw_take 5 69 (.pointer (some ⟨gx2, off2 + k * 35, none⟩)) rfl (by kernel_rfl) (fun _ _ _ h => h) (fun _ => by kernel_rfl) (fun v hv _ => ol_index 22 _ _ gx2 off2 k n2 c2 35 32 rfl (by kernel_rfl) (by kernel_rfl) hk2 Try.underlying22 (by kernel_rfl)) trivial ?_
        refine dw_ready [6] (by kernel_rfl) (by simp) ?_
        refine ar_v 6 70 (.agg x2.cells.toArray) rfl (fun _ => by kernel_rfl) (fun _ => ol_mid 32 _ _ _ _ _ rfl (by kernel_rfl) (hrg2 _ hA.drew.bel) Try.underlying32 rfl (by rw [Cl.clen hxo2.1]; kernel_rfl)) trivial ?_ ar_nil
        refine dw_ready [7] (by kernel_rfl) (by simp) ?_
        refine ar_call 7 71 11 #[.pointer (some ⟨g, 0, none⟩), .agg #[.int .i64 most, .slice a' n' c'], .agg x2.cells.toArray] rfl (fun _ => by kernel_rfl) (fun _ => by kernel_rfl) (R := fun val w' => (∃ az nz cz, val = .tuple #[.agg #[.int .i64 most, .slice az nz cz], .bool true] ∧ Ls w' az nz cz (stepL most x2 L)) ∧ Sto w' g m most (stepL most x2 L) ∧ Touch m v.drew w') ((step_any hA.drew.st hA.drew.ls hA.iv x2 hxo2.1 hxo2.2 (by have := hA.len; omega)).mono (fun e w' h => by obtain ⟨⟨a2, n2, c2, rfl, h1⟩, h2⟩ := h; exact ⟨_, rfl, ⟨a2, n2, c2, rfl, h1⟩, h2⟩)) (fun _ _ _ => trivial) ?_ ar_nil
        rintro val u22 ⟨⟨az, nz, cz, rfl, hls2⟩, hst2, ht2⟩
        refine dw_take 8 63 (.tuple #[.agg #[.int .i64 most, .slice az nz cz], .bool true]) rfl (by kernel_rfl) (fun _ _ _ h => h) (fun _ => by kernel_rfl) (fun v hv _ => by kernel_rfl) trivial ?_
        refine dw_take 9 72 (.agg #[.int .i64 most, .slice az nz cz]) rfl (by kernel_rfl) (fun _ _ _ h => h) (fun _ => by kernel_rfl) (fun v hv _ => by kernel_rfl) trivial ?_
        refine dw_take 10 73 (.bool true) rfl (by kernel_rfl) (fun _ _ _ h => h) (fun _ => by kernel_rfl) (fun v hv _ => by kernel_rfl) trivial ?_
        refine dw_ready [11] (by kernel_rfl) (by simp) ?_
        refine ar_put 11 gr (#[.int .i64 most, .slice az nz cz]) rfl (fun _ => by kernel_rfl) (fun _ => ol_store 28 _ _ _ _ _ _ rfl (by kernel_rfl) (by kernel_rfl) (ht2.row hA.drew.rb hA.ne.2) (by kernel_rfl) rfl (s_one _ _ _ _)) (fun _ _ => trivial) ?_ ar_nil
        intro w23 hp24
        have hS2 := hA.drew.step hst2 hls2 ht2 (stepL_iv hA.iv hxo2.1 hxo2.2) hp24
        have hO2 := Al.other hB.drew hA.drew.st.mp ht2 hp24 (ht2.row hA.drew.rb hA.ne.2) (by simp) hA.hg.2.1 hA.hg.2.2 hsp1
        refine dw_take 12 6 (.bool true) rfl (by kernel_rfl) (fun _ _ _ h => h) (fun _ => by kernel_rfl) (fun v hv _ => by kernel_rfl) trivial ?_
        refine dw_done (by kernel_rfl) ?_
        exact nw_cut [(6, .bool true), (3, .pointer (some ⟨gw, 0, none⟩)), (5, .pointer (some ⟨g, 0, none⟩)), (7, .pointer (some ⟨gr, 0, none⟩)), (10, .pointer (some ⟨g2, 0, none⟩)), (11, .pointer (some ⟨gq, 0, none⟩)), (12, .int .i64 ((k : Nat) : Int))] (by exact ⟨fun _ => by kernel_rfl, ⟨fun _ => by kernel_rfl, ⟨fun _ => by kernel_rfl, ⟨fun _ => by kernel_rfl, ⟨fun _ => by kernel_rfl, ⟨fun _ => by kernel_rfl, ⟨fun _ => by kernel_rfl, trivial⟩⟩⟩⟩⟩⟩⟩) ⟨az, nz, cz, rfl, hS2, hO2⟩
      refine ar_v 3 67 (.slice (some ⟨gx2, off2, none⟩) n2 c2) rfl (fun _ => by kernel_rfl) (fun _ => ol_cell 22 _ ⟨gw, 1, none⟩ _ _ rfl (by kernel_rfl) (by rw [cell_of_row _ _ _ _ _ _ (hwb _ hA.drew.bel), ← hax2]; rfl) Try.underlying22 rfl) trivial ?_ ar_nil
      refine dw_take 5 69 (.pointer (some ⟨gx2, off2 + k * 35, none⟩)) rfl (by kernel_rfl) (fun _ _ _ h => h) (fun _ => by kernel_rfl) (fun v hv _ => ol_index 22 _ _ gx2 off2 k n2 c2 35 32 rfl (by kernel_rfl) (by kernel_rfl) hk2 Try.underlying22 (by kernel_rfl)) trivial ?_
      refine dw_ready [1, 6] (by kernel_rfl) (by simp) ?_
      refine ar_v 1 65 (.agg #[.int .i64 most, .slice a' n' c']) rfl (fun _ => by kernel_rfl) (fun _ => ol_row 28 _ _ _ _ _ _ rfl (by kernel_rfl) hA.drew.rb Try.underlying28 rfl (by kernel_rfl)) trivial ?_ ?_
      · skip
        refine dw_ready [6] (by kernel_rfl) (by simp) ?_
        refine ar_v 6 70 (.agg x2.cells.toArray) rfl (fun _ => by kernel_rfl) (fun _ => ol_mid 32 _ _ _ _ _ rfl (by kernel_rfl) (hrg2 _ hA.drew.bel) Try.underlying32 rfl (by rw [Cl.clen hxo2.1]; kernel_rfl)) trivial ?_ ar_nil
        refine dw_ready [7] (by kernel_rfl) (by simp) ?_
        refine ar_call 7 71 11 #[.pointer (some ⟨g, 0, none⟩), .agg #[.int .i64 most, .slice a' n' c'], .agg x2.cells.toArray] rfl (fun _ => by kernel_rfl) (fun _ => by kernel_rfl) (R := fun val w' => (∃ az nz cz, val = .tuple #[.agg #[.int .i64 most, .slice az nz cz], .bool true] ∧ Ls w' az nz cz (stepL most x2 L)) ∧ Sto w' g m most (stepL most x2 L) ∧ Touch m v.drew w') ((step_any hA.drew.st hA.drew.ls hA.iv x2 hxo2.1 hxo2.2 (by have := hA.len; omega)).mono (fun e w' h => by obtain ⟨⟨a2, n2, c2, rfl, h1⟩, h2⟩ := h; exact ⟨_, rfl, ⟨a2, n2, c2, rfl, h1⟩, h2⟩)) (fun _ _ _ => trivial) ?_ ar_nil
        rintro val u25 ⟨⟨az, nz, cz, rfl, hls2⟩, hst2, ht2⟩
        refine dw_take 8 63 (.tuple #[.agg #[.int .i64 most, .slice az nz cz], .bool true]) rfl (by kernel_rfl) (fun _ _ _ h => h) (fun _ => by kernel_rfl) (fun v hv _ => by kernel_rfl) trivial ?_
        refine dw_take 9 72 (.agg #[.int .i64 most, .slice az nz cz]) rfl (by kernel_rfl) (fun _ _ _ h => h) (fun _ => by kernel_rfl) (fun v hv _ => by kernel_rfl) trivial ?_
        refine dw_take 10 73 (.bool true) rfl (by kernel_rfl) (fun _ _ _ h => h) (fun _ => by kernel_rfl) (fun v hv _ => by kernel_rfl) trivial ?_
        refine dw_ready [11] (by kernel_rfl) (by simp) ?_
        refine ar_put 11 gr (#[.int .i64 most, .slice az nz cz]) rfl (fun _ => by kernel_rfl) (fun _ => ol_store 28 _ _ _ _ _ _ rfl (by kernel_rfl) (by kernel_rfl) (ht2.row hA.drew.rb hA.ne.2) (by kernel_rfl) rfl (s_one _ _ _ _)) (fun _ _ => trivial) ?_ ar_nil
        intro w26 hp27
        have hS2 := hA.drew.step hst2 hls2 ht2 (stepL_iv hA.iv hxo2.1 hxo2.2) hp27
        have hO2 := Al.other hB.drew hA.drew.st.mp ht2 hp27 (ht2.row hA.drew.rb hA.ne.2) (by simp) hA.hg.2.1 hA.hg.2.2 hsp1
        refine dw_take 12 6 (.bool true) rfl (by kernel_rfl) (fun _ _ _ h => h) (fun _ => by kernel_rfl) (fun v hv _ => by kernel_rfl) trivial ?_
        refine dw_done (by kernel_rfl) ?_
        exact nw_cut [(6, .bool true), (3, .pointer (some ⟨gw, 0, none⟩)), (5, .pointer (some ⟨g, 0, none⟩)), (7, .pointer (some ⟨gr, 0, none⟩)), (10, .pointer (some ⟨g2, 0, none⟩)), (11, .pointer (some ⟨gq, 0, none⟩)), (12, .int .i64 ((k : Nat) : Int))] (by exact ⟨fun _ => by kernel_rfl, ⟨fun _ => by kernel_rfl, ⟨fun _ => by kernel_rfl, ⟨fun _ => by kernel_rfl, ⟨fun _ => by kernel_rfl, ⟨fun _ => by kernel_rfl, ⟨fun _ => by kernel_rfl, trivial⟩⟩⟩⟩⟩⟩⟩) ⟨az, nz, cz, rfl, hS2, hO2⟩
      refine ar_v 6 70 (.agg x2.cells.toArray) rfl (fun _ => by kernel_rfl) (fun _ => ol_mid 32 _ _ _ _ _ rfl (by kernel_rfl) (hrg2 _ hA.drew.bel) Try.underlying32 rfl (by rw [Cl.clen hxo2.1]; kernel_rfl)) trivial ?_ ar_nil
      refine dw_ready [1] (by kernel_rfl) (by simp) ?_
      refine ar_v 1 65 (.agg #[.int .i64 most, .slice a' n' c']) rfl (fun _ => by kernel_rfl) (fun _ => ol_row 28 _ _ _ _ _ _ rfl (by kernel_rfl) hA.drew.rb Try.underlying28 rfl (by kernel_rfl)) trivial ?_ ar_nil
      refine dw_ready [7] (by kernel_rfl) (by simp) ?_
      refine ar_call 7 71 11 #[.pointer (some ⟨g, 0, none⟩), .agg #[.int .i64 most, .slice a' n' c'], .agg x2.cells.toArray] rfl (fun _ => by kernel_rfl) (fun _ => by kernel_rfl) (R := fun val w' => (∃ az nz cz, val = .tuple #[.agg #[.int .i64 most, .slice az nz cz], .bool true] ∧ Ls w' az nz cz (stepL most x2 L)) ∧ Sto w' g m most (stepL most x2 L) ∧ Touch m v.drew w') ((step_any hA.drew.st hA.drew.ls hA.iv x2 hxo2.1 hxo2.2 (by have := hA.len; omega)).mono (fun e w' h => by obtain ⟨⟨a2, n2, c2, rfl, h1⟩, h2⟩ := h; exact ⟨_, rfl, ⟨a2, n2, c2, rfl, h1⟩, h2⟩)) (fun _ _ _ => trivial) ?_ ar_nil
      rintro val u28 ⟨⟨az, nz, cz, rfl, hls2⟩, hst2, ht2⟩
      refine dw_take 8 63 (.tuple #[.agg #[.int .i64 most, .slice az nz cz], .bool true]) rfl (by kernel_rfl) (fun _ _ _ h => h) (fun _ => by kernel_rfl) (fun v hv _ => by kernel_rfl) trivial ?_
      refine dw_take 9 72 (.agg #[.int .i64 most, .slice az nz cz]) rfl (by kernel_rfl) (fun _ _ _ h => h) (fun _ => by kernel_rfl) (fun v hv _ => by kernel_rfl) trivial ?_
      refine dw_take 10 73 (.bool true) rfl (by kernel_rfl) (fun _ _ _ h => h) (fun _ => by kernel_rfl) (fun v hv _ => by kernel_rfl) trivial ?_
      refine dw_ready [11] (by kernel_rfl) (by simp) ?_
      refine ar_put 11 gr (#[.int .i64 most, .slice az nz cz]) rfl (fun _ => by kernel_rfl) (fun _ => ol_store 28 _ _ _ _ _ _ rfl (by kernel_rfl) (by kernel_rfl) (ht2.row hA.drew.rb hA.ne.2) (by kernel_rfl) rfl (s_one _ _ _ _)) (fun _ _ => trivial) ?_ ar_nil
      intro w29 hp30
      have hS2 := hA.drew.step hst2 hls2 ht2 (stepL_iv hA.iv hxo2.1 hxo2.2) hp30
      have hO2 := Al.other hB.drew hA.drew.st.mp ht2 hp30 (ht2.row hA.drew.rb hA.ne.2) (by simp) hA.hg.2.1 hA.hg.2.2 hsp1
      refine dw_take 12 6 (.bool true) rfl (by kernel_rfl) (fun _ _ _ h => h) (fun _ => by kernel_rfl) (fun v hv _ => by kernel_rfl) trivial ?_
      refine dw_done (by kernel_rfl) ?_
      exact nw_cut [(6, .bool true), (3, .pointer (some ⟨gw, 0, none⟩)), (5, .pointer (some ⟨g, 0, none⟩)), (7, .pointer (some ⟨gr, 0, none⟩)), (10, .pointer (some ⟨g2, 0, none⟩)), (11, .pointer (some ⟨gq, 0, none⟩)), (12, .int .i64 ((k : Nat) : Int))] (by exact ⟨fun _ => by kernel_rfl, ⟨fun _ => by kernel_rfl, ⟨fun _ => by kernel_rfl, ⟨fun _ => by kernel_rfl, ⟨fun _ => by kernel_rfl, ⟨fun _ => by kernel_rfl, ⟨fun _ => by kernel_rfl, trivial⟩⟩⟩⟩⟩⟩⟩) ⟨az, nz, cz, rfl, hS2, hO2⟩
    rintro e v ⟨az2, nz2, cz2, rfl, hSz2, hOz2⟩
    have hllz2 := stepL_len most x2 L
    clear hA hB
    have hA := hSz2
    have hB := hOz2
    clear hSz2 hOz2
    refine nw_then ?_
    refine cw_seq ?_
    refine cw_region ?_
    refine rw_p 74 (.bool true) (fun _ => by kernel_rfl) (fun _ => by kernel_rfl) ?_
    refine rw_p 75 (.bool false) (fun _ => by kernel_rfl) (fun _ => by kernel_rfl) ?_
    refine rw_nil ?_
    refine nw_then ?_
    refine cw_cond_f (fun _ => by kernel_rfl) ?_
    refine cw_skip ?_
    refine nw_then ?_
    refine cw_seq ?_
    refine cw_region ?_
    refine rw_p 76 (.int .i64 ((k : Nat) : Int)) (fun _ => by kernel_rfl) (fun _ => by kernel_rfl) ?_
    refine rw_p 77 (.pointer (some ⟨gw, 2, none⟩)) (fun _ => by kernel_rfl) (fun _ => by kernel_rfl) ?_
    refine rw_p 78 (.slice a3 n3 c3) (fun _ => by kernel_rfl) (fun _ => ol_cell 22 _ ⟨gw, 2, none⟩ _ _ rfl (by kernel_rfl) (by rw [cell_of_row _ _ _ _ _ _ (hwb _ hA.bel)]; rfl) Try.underlying22 rfl) ?_
    refine rw_p 79 (.int .i64 n3) (fun _ => by kernel_rfl) (fun _ => by kernel_rfl) ?_
    refine rw_p 80 (.bool false) (fun _ => by kernel_rfl) (fun _ => ol_conv (v := .bool (decide (((k : Nat) : Int) < (n3 : Int)))) (by kernel_rfl) (congrArg Value.bool (decide_eq_false (by omega)))) ?_
    refine rw_nil ?_
    refine nw_then ?_
    refine cw_cond_f (fun _ => by kernel_rfl) ?_
    refine cw_skip ?_
    refine nw_block ?_
    refine nw_then ?_
    refine cw_region ?_
    refine rw_p 56 (.int .i64 ((k : Nat) : Int)) (fun _ => by kernel_rfl) (fun _ => by kernel_rfl) ?_
    refine rw_p 57 (.int .i64 (((k : Nat) : Int) + 1)) (fun _ => by kernel_rfl) (fun _ => ol_conv (v := .int .i64 (IntKind.i64.wrap (((k : Nat) : Int) + 1))) (by kernel_rfl) (congrArg (Value.int .i64) (wrap64 (by omega) (by omega)))) ?_
    refine rw_p 12 (.int .i64 (((k : Nat) : Int) + 1)) (fun _ => by kernel_rfl) (fun _ => by kernel_rfl) ?_
    refine rw_nil ?_
    exact nw_round (E := fun x : (Nat × (List Th × Option Addr × Nat × Nat) × (List Th × Option Addr × Nat × Nat)) => [(3, .pointer (some ⟨gw, 0, none⟩)), (5, .pointer (some ⟨g, 0, none⟩)), (7, .pointer (some ⟨gr, 0, none⟩)), (10, .pointer (some ⟨g2, 0, none⟩)), (11, .pointer (some ⟨gq, 0, none⟩)), (12, .int .i64 ((x.1 : Nat) : Int))]) (R := fun (x : (Nat × (List Th × Option Addr × Nat × Nat) × (List Th × Option Addr × Nat × Nat))) v => Al W v g m gr most x.2.1.1 x.2.1.2.1 x.2.1.2.2.1 x.2.1.2.2.2 ∧ Al W v g2 m2 gq most x.2.2.1 x.2.2.2.1 x.2.2.2.2.1 x.2.2.2.2.2 ∧ x.2.1.1.length ≤ n + x.1 ∧ x.2.2.1.length ≤ n + x.1 ∧ x.1 ≤ n2 + n3) (μ := fun x => (n2 - x.1) + (n3 - x.1)) (x := (k, (L, a', n', c'), (M, b', nb, cb))) (k + 1, (stepL most x2 L, az2, nz2, cz2), (M, b', nb, cb)) (by exact ⟨fun _ => by kernel_rfl, ⟨fun _ => by kernel_rfl, ⟨fun _ => by kernel_rfl, ⟨fun _ => by kernel_rfl, ⟨fun _ => by kernel_rfl, ⟨fun _ => by kernel_rfl, trivial⟩⟩⟩⟩⟩⟩) ⟨hA, hB, by simp only; omega, by simp only; omega, by simp only; omega⟩ (by simp only; omega)
  by_cases hk3 : k < n3
  · skip
    refine cw_seq ?_
    refine cw_seq ?_
    refine cw_region ?_
    refine rw_p 44 (.int .i64 ((k : Nat) : Int)) (fun _ => by kernel_rfl) (fun _ => by kernel_rfl) ?_
    refine rw_p 45 (.pointer (some ⟨gw, 1, none⟩)) (fun _ => by kernel_rfl) (fun _ => by kernel_rfl) ?_
    refine rw_p 46 (.slice a2 n2 c2) (fun _ => by kernel_rfl) (fun _ => ol_cell 22 _ ⟨gw, 1, none⟩ _ _ rfl (by kernel_rfl) (by rw [cell_of_row _ _ _ _ _ _ (hwb _ hA.bel)]; rfl) Try.underlying22 rfl) ?_
    refine rw_p 47 (.int .i64 n2) (fun _ => by kernel_rfl) (fun _ => by kernel_rfl) ?_
    refine rw_p 48 (.bool false) (fun _ => by kernel_rfl) (fun _ => ol_conv (v := .bool (decide (((k : Nat) : Int) < (n2 : Int)))) (by kernel_rfl) (congrArg Value.bool (decide_eq_false (by omega)))) ?_
    refine rw_p 49 (.bool false) (fun _ => by kernel_rfl) (fun _ => by kernel_rfl) ?_
    refine rw_p 50 (.int .i64 ((k : Nat) : Int)) (fun _ => by kernel_rfl) (fun _ => by kernel_rfl) ?_
    refine rw_p 51 (.pointer (some ⟨gw, 2, none⟩)) (fun _ => by kernel_rfl) (fun _ => by kernel_rfl) ?_
    refine rw_p 52 (.slice a3 n3 c3) (fun _ => by kernel_rfl) (fun _ => ol_cell 22 _ ⟨gw, 2, none⟩ _ _ rfl (by kernel_rfl) (by rw [cell_of_row _ _ _ _ _ _ (hwb _ hA.bel)]; rfl) Try.underlying22 rfl) ?_
    refine rw_p 53 (.int .i64 n3) (fun _ => by kernel_rfl) (fun _ => by kernel_rfl) ?_
    refine rw_p 54 (.bool true) (fun _ => by kernel_rfl) (fun _ => ol_conv (v := .bool (decide (((k : Nat) : Int) < (n3 : Int)))) (by kernel_rfl) (congrArg Value.bool (decide_eq_true (by omega)))) ?_
    refine rw_p 55 (.bool true) (fun _ => by kernel_rfl) (fun _ => by kernel_rfl) ?_
    refine rw_nil ?_
    refine nw_then ?_
    refine cw_cond_t (fun _ => by kernel_rfl) ?_
    refine cw_skip ?_
    refine nw_then ?_
    refine cw_seq ?_
    refine cw_block ?_
    refine cw_seq ?_
    refine cw_seq ?_
    refine cw_region ?_
    refine rw_p 58 (.int .i64 ((k : Nat) : Int)) (fun _ => by kernel_rfl) (fun _ => by kernel_rfl) ?_
    refine rw_p 59 (.pointer (some ⟨gw, 1, none⟩)) (fun _ => by kernel_rfl) (fun _ => by kernel_rfl) ?_
    refine rw_p 60 (.slice a2 n2 c2) (fun _ => by kernel_rfl) (fun _ => ol_cell 22 _ ⟨gw, 1, none⟩ _ _ rfl (by kernel_rfl) (by rw [cell_of_row _ _ _ _ _ _ (hwb _ hA.bel)]; rfl) Try.underlying22 rfl) ?_
    refine rw_p 61 (.int .i64 n2) (fun _ => by kernel_rfl) (fun _ => by kernel_rfl) ?_
    refine rw_p 62 (.bool false) (fun _ => by kernel_rfl) (fun _ => ol_conv (v := .bool (decide (((k : Nat) : Int) < (n2 : Int)))) (by kernel_rfl) (congrArg Value.bool (decide_eq_false (by omega)))) ?_
    refine rw_nil ?_
    refine nw_then ?_
    refine cw_cond_f (fun _ => by kernel_rfl) ?_
    refine cw_skip ?_
    refine nw_then ?_
    refine cw_seq ?_
    refine cw_region ?_
    refine rw_p 76 (.int .i64 ((k : Nat) : Int)) (fun _ => by kernel_rfl) (fun _ => by kernel_rfl) ?_
    refine rw_p 77 (.pointer (some ⟨gw, 2, none⟩)) (fun _ => by kernel_rfl) (fun _ => by kernel_rfl) ?_
    refine rw_p 78 (.slice a3 n3 c3) (fun _ => by kernel_rfl) (fun _ => ol_cell 22 _ ⟨gw, 2, none⟩ _ _ rfl (by kernel_rfl) (by rw [cell_of_row _ _ _ _ _ _ (hwb _ hA.bel)]; rfl) Try.underlying22 rfl) ?_
    refine rw_p 79 (.int .i64 n3) (fun _ => by kernel_rfl) (fun _ => by kernel_rfl) ?_
    refine rw_p 80 (.bool true) (fun _ => by kernel_rfl) (fun _ => ol_conv (v := .bool (decide (((k : Nat) : Int) < (n3 : Int)))) (by kernel_rfl) (congrArg Value.bool (decide_eq_true (by omega)))) ?_
    refine rw_nil ?_
    refine nw_then ?_
    refine cw_cond_t (fun _ => by kernel_rfl) ?_
    refine cw_seq ?_
    obtain ⟨x3, hx3⟩ : ∃ x, x3s[k]? = some x := ⟨_, List.getElem?_eq_getElem (by rw [← hC3.l]; exact hk3)⟩
    have hxo3 := hC3.ok x3 (List.mem_of_getElem? hx3)
    obtain ⟨gx3, off3, hax3, _⟩ := hC3.rows k x3 hx3
    have hrg3 : ∀ v, Below W.heap.size W v → v.rangeAt gx3 (off3 + k * 35) x3.cells := fun v hb => by have h := (hC3.go hb); rw [hax3] at h; exact h.rng hx3
    refine cw_cut (fun e w' => ∃ az nz cz, e = [(6, .bool true), (3, .pointer (some ⟨gw, 0, none⟩)), (5, .pointer (some ⟨g, 0, none⟩)), (7, .pointer (some ⟨gr, 0, none⟩)), (10, .pointer (some ⟨g2, 0, none⟩)), (11, .pointer (some ⟨gq, 0, none⟩)), (12, .int .i64 ((k : Nat) : Int))] ∧ Al W w' g2 m2 gq most (stepL most x3 M) az nz cz ∧ Al W w' g m gr most (L) a' n' c') ?_ ?_
    · skip
      refine cw_draw (fun _ => True) (by kernel_rfl) (trivial) ?_
      refine dw_take 0 82 (.pointer (some ⟨g2, 0, none⟩)) rfl (by kernel_rfl) (fun _ _ _ h => h) (fun _ => by kernel_rfl) (fun v hv _ => by kernel_rfl) trivial ?_
      refine dw_take 2 84 (.pointer (some ⟨gw, 2, none⟩)) rfl (by kernel_rfl) (fun _ _ _ h => h) (fun _ => by kernel_rfl) (fun v hv _ => by kernel_rfl) trivial ?_
      refine dw_take 4 86 (.int .i64 ((k : Nat) : Int)) rfl (by kernel_rfl) (fun _ _ _ h => h) (fun _ => by kernel_rfl) (fun v hv _ => by kernel_rfl) trivial ?_
      refine dw_ready [1, 3] (by kernel_rfl) (by simp) ?_
      refine ar_v 1 83 (.agg #[.int .i64 most, .slice b' nb cb]) rfl (fun _ => by kernel_rfl) (fun _ => ol_row 28 _ _ _ _ _ _ rfl (by kernel_rfl) hB.drew.rb Try.underlying28 rfl (by kernel_rfl)) trivial ?_ ?_
      · skip
        refine dw_ready [3] (by kernel_rfl) (by simp) ?_
        refine ar_v 3 85 (.slice (some ⟨gx3, off3, none⟩) n3 c3) rfl (fun _ => by kernel_rfl) (fun _ => ol_cell 22 _ ⟨gw, 2, none⟩ _ _ rfl (by kernel_rfl) (by rw [cell_of_row _ _ _ _ _ _ (hwb _ hB.drew.bel), ← hax3]; rfl) Try.underlying22 rfl) trivial ?_ ar_nil
        refine dw_take 5 87 (.pointer (some ⟨gx3, off3 + k * 35, none⟩)) rfl (by kernel_rfl) (fun _ _ _ h => h) (fun _ => by kernel_rfl) (fun v hv _ => ol_index 22 _ _ gx3 off3 k n3 c3 35 32 rfl (by kernel_rfl) (by kernel_rfl) hk3 Try.underlying22 (by kernel_rfl)) trivial ?_
        refine dw_ready [6] (by kernel_rfl) (by simp) ?_
        refine ar_v 6 88 (.agg x3.cells.toArray) rfl (fun _ => by kernel_rfl) (fun _ => ol_mid 32 _ _ _ _ _ rfl (by kernel_rfl) (hrg3 _ hB.drew.bel) Try.underlying32 rfl (by rw [Cl.clen hxo3.1]; kernel_rfl)) trivial ?_ ar_nil
        refine dw_ready [7] (by kernel_rfl) (by simp) ?_
        refine ar_call 7 89 11 #[.pointer (some ⟨g2, 0, none⟩), .agg #[.int .i64 most, .slice b' nb cb], .agg x3.cells.toArray] rfl (fun _ => by kernel_rfl) (fun _ => by kernel_rfl) (R := fun val w' => (∃ az nz cz, val = .tuple #[.agg #[.int .i64 most, .slice az nz cz], .bool true] ∧ Ls w' az nz cz (stepL most x3 M)) ∧ Sto w' g2 m2 most (stepL most x3 M) ∧ Touch m2 v.drew w') ((step_any hB.drew.st hB.drew.ls hB.iv x3 hxo3.1 hxo3.2 (by have := hB.len; omega)).mono (fun e w' h => by obtain ⟨⟨a2, n2, c2, rfl, h1⟩, h2⟩ := h; exact ⟨_, rfl, ⟨a2, n2, c2, rfl, h1⟩, h2⟩)) (fun _ _ _ => trivial) ?_ ar_nil
        rintro val u31 ⟨⟨az, nz, cz, rfl, hls2⟩, hst2, ht2⟩
        refine dw_take 8 81 (.tuple #[.agg #[.int .i64 most, .slice az nz cz], .bool true]) rfl (by kernel_rfl) (fun _ _ _ h => h) (fun _ => by kernel_rfl) (fun v hv _ => by kernel_rfl) trivial ?_
        refine dw_take 9 90 (.agg #[.int .i64 most, .slice az nz cz]) rfl (by kernel_rfl) (fun _ _ _ h => h) (fun _ => by kernel_rfl) (fun v hv _ => by kernel_rfl) trivial ?_
        refine dw_take 10 91 (.bool true) rfl (by kernel_rfl) (fun _ _ _ h => h) (fun _ => by kernel_rfl) (fun v hv _ => by kernel_rfl) trivial ?_
        refine dw_ready [11] (by kernel_rfl) (by simp) ?_
        refine ar_put 11 gq (#[.int .i64 most, .slice az nz cz]) rfl (fun _ => by kernel_rfl) (fun _ => ol_store 28 _ _ _ _ _ _ rfl (by kernel_rfl) (by kernel_rfl) (ht2.row hB.drew.rb hB.ne.2) (by kernel_rfl) rfl (s_one _ _ _ _)) (fun _ _ => trivial) ?_ ar_nil
        intro w32 hp33
        have hS2 := hB.drew.step hst2 hls2 ht2 (stepL_iv hB.iv hxo3.1 hxo3.2) hp33
        have hO2 := Al.other hA.drew hB.drew.st.mp ht2 hp33 (ht2.row hB.drew.rb hB.ne.2) (by simp) hB.hg.2.1 hB.hg.2.2 hsp2
        refine dw_take 12 6 (.bool true) rfl (by kernel_rfl) (fun _ _ _ h => h) (fun _ => by kernel_rfl) (fun v hv _ => by kernel_rfl) trivial ?_
        refine dw_done (by kernel_rfl) ?_
        exact nw_cut [(6, .bool true), (3, .pointer (some ⟨gw, 0, none⟩)), (5, .pointer (some ⟨g, 0, none⟩)), (7, .pointer (some ⟨gr, 0, none⟩)), (10, .pointer (some ⟨g2, 0, none⟩)), (11, .pointer (some ⟨gq, 0, none⟩)), (12, .int .i64 ((k : Nat) : Int))] (by exact ⟨fun _ => by kernel_rfl, ⟨fun _ => by kernel_rfl, ⟨fun _ => by kernel_rfl, ⟨fun _ => by kernel_rfl, ⟨fun _ => by kernel_rfl, ⟨fun _ => by kernel_rfl, ⟨fun _ => by kernel_rfl, trivial⟩⟩⟩⟩⟩⟩⟩) ⟨az, nz, cz, rfl, hS2, hO2⟩
      refine ar_v 3 85 (.slice (some ⟨gx3, off3, none⟩) n3 c3) rfl (fun _ => by kernel_rfl) (fun _ => ol_cell 22 _ ⟨gw, 2, none⟩ _ _ rfl (by kernel_rfl) (by rw [cell_of_row _ _ _ _ _ _ (hwb _ hB.drew.bel), ← hax3]; rfl) Try.underlying22 rfl) trivial ?_ ar_nil
      refine dw_take 5 87 (.pointer (some ⟨gx3, off3 + k * 35, none⟩)) rfl (by kernel_rfl) (fun _ _ _ h => h) (fun _ => by kernel_rfl) (fun v hv _ => ol_index 22 _ _ gx3 off3 k n3 c3 35 32 rfl (by kernel_rfl) (by kernel_rfl) hk3 Try.underlying22 (by kernel_rfl)) trivial ?_
      refine dw_ready [1, 6] (by kernel_rfl) (by simp) ?_
      refine ar_v 1 83 (.agg #[.int .i64 most, .slice b' nb cb]) rfl (fun _ => by kernel_rfl) (fun _ => ol_row 28 _ _ _ _ _ _ rfl (by kernel_rfl) hB.drew.rb Try.underlying28 rfl (by kernel_rfl)) trivial ?_ ?_
      · skip
        refine dw_ready [6] (by kernel_rfl) (by simp) ?_
        refine ar_v 6 88 (.agg x3.cells.toArray) rfl (fun _ => by kernel_rfl) (fun _ => ol_mid 32 _ _ _ _ _ rfl (by kernel_rfl) (hrg3 _ hB.drew.bel) Try.underlying32 rfl (by rw [Cl.clen hxo3.1]; kernel_rfl)) trivial ?_ ar_nil
        refine dw_ready [7] (by kernel_rfl) (by simp) ?_
        refine ar_call 7 89 11 #[.pointer (some ⟨g2, 0, none⟩), .agg #[.int .i64 most, .slice b' nb cb], .agg x3.cells.toArray] rfl (fun _ => by kernel_rfl) (fun _ => by kernel_rfl) (R := fun val w' => (∃ az nz cz, val = .tuple #[.agg #[.int .i64 most, .slice az nz cz], .bool true] ∧ Ls w' az nz cz (stepL most x3 M)) ∧ Sto w' g2 m2 most (stepL most x3 M) ∧ Touch m2 v.drew w') ((step_any hB.drew.st hB.drew.ls hB.iv x3 hxo3.1 hxo3.2 (by have := hB.len; omega)).mono (fun e w' h => by obtain ⟨⟨a2, n2, c2, rfl, h1⟩, h2⟩ := h; exact ⟨_, rfl, ⟨a2, n2, c2, rfl, h1⟩, h2⟩)) (fun _ _ _ => trivial) ?_ ar_nil
        rintro val u34 ⟨⟨az, nz, cz, rfl, hls2⟩, hst2, ht2⟩
        refine dw_take 8 81 (.tuple #[.agg #[.int .i64 most, .slice az nz cz], .bool true]) rfl (by kernel_rfl) (fun _ _ _ h => h) (fun _ => by kernel_rfl) (fun v hv _ => by kernel_rfl) trivial ?_
        refine dw_take 9 90 (.agg #[.int .i64 most, .slice az nz cz]) rfl (by kernel_rfl) (fun _ _ _ h => h) (fun _ => by kernel_rfl) (fun v hv _ => by kernel_rfl) trivial ?_
        refine dw_take 10 91 (.bool true) rfl (by kernel_rfl) (fun _ _ _ h => h) (fun _ => by kernel_rfl) (fun v hv _ => by kernel_rfl) trivial ?_
        refine dw_ready [11] (by kernel_rfl) (by simp) ?_
        refine ar_put 11 gq (#[.int .i64 most, .slice az nz cz]) rfl (fun _ => by kernel_rfl) (fun _ => ol_store 28 _ _ _ _ _ _ rfl (by kernel_rfl) (by kernel_rfl) (ht2.row hB.drew.rb hB.ne.2) (by kernel_rfl) rfl (s_one _ _ _ _)) (fun _ _ => trivial) ?_ ar_nil
        intro w35 hp36
        have hS2 := hB.drew.step hst2 hls2 ht2 (stepL_iv hB.iv hxo3.1 hxo3.2) hp36
        have hO2 := Al.other hA.drew hB.drew.st.mp ht2 hp36 (ht2.row hB.drew.rb hB.ne.2) (by simp) hB.hg.2.1 hB.hg.2.2 hsp2
        refine dw_take 12 6 (.bool true) rfl (by kernel_rfl) (fun _ _ _ h => h) (fun _ => by kernel_rfl) (fun v hv _ => by kernel_rfl) trivial ?_
        refine dw_done (by kernel_rfl) ?_
        exact nw_cut [(6, .bool true), (3, .pointer (some ⟨gw, 0, none⟩)), (5, .pointer (some ⟨g, 0, none⟩)), (7, .pointer (some ⟨gr, 0, none⟩)), (10, .pointer (some ⟨g2, 0, none⟩)), (11, .pointer (some ⟨gq, 0, none⟩)), (12, .int .i64 ((k : Nat) : Int))] (by exact ⟨fun _ => by kernel_rfl, ⟨fun _ => by kernel_rfl, ⟨fun _ => by kernel_rfl, ⟨fun _ => by kernel_rfl, ⟨fun _ => by kernel_rfl, ⟨fun _ => by kernel_rfl, ⟨fun _ => by kernel_rfl, trivial⟩⟩⟩⟩⟩⟩⟩) ⟨az, nz, cz, rfl, hS2, hO2⟩
      refine ar_v 6 88 (.agg x3.cells.toArray) rfl (fun _ => by kernel_rfl) (fun _ => ol_mid 32 _ _ _ _ _ rfl (by kernel_rfl) (hrg3 _ hB.drew.bel) Try.underlying32 rfl (by rw [Cl.clen hxo3.1]; kernel_rfl)) trivial ?_ ar_nil
      refine dw_ready [1] (by kernel_rfl) (by simp) ?_
      refine ar_v 1 83 (.agg #[.int .i64 most, .slice b' nb cb]) rfl (fun _ => by kernel_rfl) (fun _ => ol_row 28 _ _ _ _ _ _ rfl (by kernel_rfl) hB.drew.rb Try.underlying28 rfl (by kernel_rfl)) trivial ?_ ar_nil
      refine dw_ready [7] (by kernel_rfl) (by simp) ?_
      refine ar_call 7 89 11 #[.pointer (some ⟨g2, 0, none⟩), .agg #[.int .i64 most, .slice b' nb cb], .agg x3.cells.toArray] rfl (fun _ => by kernel_rfl) (fun _ => by kernel_rfl) (R := fun val w' => (∃ az nz cz, val = .tuple #[.agg #[.int .i64 most, .slice az nz cz], .bool true] ∧ Ls w' az nz cz (stepL most x3 M)) ∧ Sto w' g2 m2 most (stepL most x3 M) ∧ Touch m2 v.drew w') ((step_any hB.drew.st hB.drew.ls hB.iv x3 hxo3.1 hxo3.2 (by have := hB.len; omega)).mono (fun e w' h => by obtain ⟨⟨a2, n2, c2, rfl, h1⟩, h2⟩ := h; exact ⟨_, rfl, ⟨a2, n2, c2, rfl, h1⟩, h2⟩)) (fun _ _ _ => trivial) ?_ ar_nil
      rintro val u37 ⟨⟨az, nz, cz, rfl, hls2⟩, hst2, ht2⟩
      refine dw_take 8 81 (.tuple #[.agg #[.int .i64 most, .slice az nz cz], .bool true]) rfl (by kernel_rfl) (fun _ _ _ h => h) (fun _ => by kernel_rfl) (fun v hv _ => by kernel_rfl) trivial ?_
      refine dw_take 9 90 (.agg #[.int .i64 most, .slice az nz cz]) rfl (by kernel_rfl) (fun _ _ _ h => h) (fun _ => by kernel_rfl) (fun v hv _ => by kernel_rfl) trivial ?_
      refine dw_take 10 91 (.bool true) rfl (by kernel_rfl) (fun _ _ _ h => h) (fun _ => by kernel_rfl) (fun v hv _ => by kernel_rfl) trivial ?_
      refine dw_ready [11] (by kernel_rfl) (by simp) ?_
      refine ar_put 11 gq (#[.int .i64 most, .slice az nz cz]) rfl (fun _ => by kernel_rfl) (fun _ => ol_store 28 _ _ _ _ _ _ rfl (by kernel_rfl) (by kernel_rfl) (ht2.row hB.drew.rb hB.ne.2) (by kernel_rfl) rfl (s_one _ _ _ _)) (fun _ _ => trivial) ?_ ar_nil
      intro w38 hp39
      have hS2 := hB.drew.step hst2 hls2 ht2 (stepL_iv hB.iv hxo3.1 hxo3.2) hp39
      have hO2 := Al.other hA.drew hB.drew.st.mp ht2 hp39 (ht2.row hB.drew.rb hB.ne.2) (by simp) hB.hg.2.1 hB.hg.2.2 hsp2
      refine dw_take 12 6 (.bool true) rfl (by kernel_rfl) (fun _ _ _ h => h) (fun _ => by kernel_rfl) (fun v hv _ => by kernel_rfl) trivial ?_
      refine dw_done (by kernel_rfl) ?_
      exact nw_cut [(6, .bool true), (3, .pointer (some ⟨gw, 0, none⟩)), (5, .pointer (some ⟨g, 0, none⟩)), (7, .pointer (some ⟨gr, 0, none⟩)), (10, .pointer (some ⟨g2, 0, none⟩)), (11, .pointer (some ⟨gq, 0, none⟩)), (12, .int .i64 ((k : Nat) : Int))] (by exact ⟨fun _ => by kernel_rfl, ⟨fun _ => by kernel_rfl, ⟨fun _ => by kernel_rfl, ⟨fun _ => by kernel_rfl, ⟨fun _ => by kernel_rfl, ⟨fun _ => by kernel_rfl, ⟨fun _ => by kernel_rfl, trivial⟩⟩⟩⟩⟩⟩⟩) ⟨az, nz, cz, rfl, hS2, hO2⟩
    rintro e v ⟨az3, nz3, cz3, rfl, hSz3, hOz3⟩
    have hllz3 := stepL_len most x3 M
    clear hA hB
    have hA := hOz3
    have hB := hSz3
    clear hSz3 hOz3
    refine nw_then ?_
    refine cw_seq ?_
    refine cw_region ?_
    refine rw_p 92 (.bool true) (fun _ => by kernel_rfl) (fun _ => by kernel_rfl) ?_
    refine rw_p 93 (.bool false) (fun _ => by kernel_rfl) (fun _ => by kernel_rfl) ?_
    refine rw_nil ?_
    refine nw_then ?_
    refine cw_cond_f (fun _ => by kernel_rfl) ?_
    refine cw_skip ?_
    refine nw_block ?_
    refine nw_then ?_
    refine cw_region ?_
    refine rw_p 56 (.int .i64 ((k : Nat) : Int)) (fun _ => by kernel_rfl) (fun _ => by kernel_rfl) ?_
    refine rw_p 57 (.int .i64 (((k : Nat) : Int) + 1)) (fun _ => by kernel_rfl) (fun _ => ol_conv (v := .int .i64 (IntKind.i64.wrap (((k : Nat) : Int) + 1))) (by kernel_rfl) (congrArg (Value.int .i64) (wrap64 (by omega) (by omega)))) ?_
    refine rw_p 12 (.int .i64 (((k : Nat) : Int) + 1)) (fun _ => by kernel_rfl) (fun _ => by kernel_rfl) ?_
    refine rw_nil ?_
    exact nw_round (E := fun x : (Nat × (List Th × Option Addr × Nat × Nat) × (List Th × Option Addr × Nat × Nat)) => [(3, .pointer (some ⟨gw, 0, none⟩)), (5, .pointer (some ⟨g, 0, none⟩)), (7, .pointer (some ⟨gr, 0, none⟩)), (10, .pointer (some ⟨g2, 0, none⟩)), (11, .pointer (some ⟨gq, 0, none⟩)), (12, .int .i64 ((x.1 : Nat) : Int))]) (R := fun (x : (Nat × (List Th × Option Addr × Nat × Nat) × (List Th × Option Addr × Nat × Nat))) v => Al W v g m gr most x.2.1.1 x.2.1.2.1 x.2.1.2.2.1 x.2.1.2.2.2 ∧ Al W v g2 m2 gq most x.2.2.1 x.2.2.2.1 x.2.2.2.2.1 x.2.2.2.2.2 ∧ x.2.1.1.length ≤ n + x.1 ∧ x.2.2.1.length ≤ n + x.1 ∧ x.1 ≤ n2 + n3) (μ := fun x => (n2 - x.1) + (n3 - x.1)) (x := (k, (L, a', n', c'), (M, b', nb, cb))) (k + 1, (L, a', n', c'), (stepL most x3 M, az3, nz3, cz3)) (by exact ⟨fun _ => by kernel_rfl, ⟨fun _ => by kernel_rfl, ⟨fun _ => by kernel_rfl, ⟨fun _ => by kernel_rfl, ⟨fun _ => by kernel_rfl, ⟨fun _ => by kernel_rfl, trivial⟩⟩⟩⟩⟩⟩) ⟨hA, hB, by simp only; omega, by simp only; omega, by simp only; omega⟩ (by simp only; omega)
  refine cw_seq ?_
  refine cw_seq ?_
  refine cw_region ?_
  refine rw_p 44 (.int .i64 ((k : Nat) : Int)) (fun _ => by kernel_rfl) (fun _ => by kernel_rfl) ?_
  refine rw_p 45 (.pointer (some ⟨gw, 1, none⟩)) (fun _ => by kernel_rfl) (fun _ => by kernel_rfl) ?_
  refine rw_p 46 (.slice a2 n2 c2) (fun _ => by kernel_rfl) (fun _ => ol_cell 22 _ ⟨gw, 1, none⟩ _ _ rfl (by kernel_rfl) (by rw [cell_of_row _ _ _ _ _ _ (hwb _ hA.bel)]; rfl) Try.underlying22 rfl) ?_
  refine rw_p 47 (.int .i64 n2) (fun _ => by kernel_rfl) (fun _ => by kernel_rfl) ?_
  refine rw_p 48 (.bool false) (fun _ => by kernel_rfl) (fun _ => ol_conv (v := .bool (decide (((k : Nat) : Int) < (n2 : Int)))) (by kernel_rfl) (congrArg Value.bool (decide_eq_false (by omega)))) ?_
  refine rw_p 49 (.bool false) (fun _ => by kernel_rfl) (fun _ => by kernel_rfl) ?_
  refine rw_p 50 (.int .i64 ((k : Nat) : Int)) (fun _ => by kernel_rfl) (fun _ => by kernel_rfl) ?_
  refine rw_p 51 (.pointer (some ⟨gw, 2, none⟩)) (fun _ => by kernel_rfl) (fun _ => by kernel_rfl) ?_
  refine rw_p 52 (.slice a3 n3 c3) (fun _ => by kernel_rfl) (fun _ => ol_cell 22 _ ⟨gw, 2, none⟩ _ _ rfl (by kernel_rfl) (by rw [cell_of_row _ _ _ _ _ _ (hwb _ hA.bel)]; rfl) Try.underlying22 rfl) ?_
  refine rw_p 53 (.int .i64 n3) (fun _ => by kernel_rfl) (fun _ => by kernel_rfl) ?_
  refine rw_p 54 (.bool false) (fun _ => by kernel_rfl) (fun _ => ol_conv (v := .bool (decide (((k : Nat) : Int) < (n3 : Int)))) (by kernel_rfl) (congrArg Value.bool (decide_eq_false (by omega)))) ?_
  refine rw_p 55 (.bool false) (fun _ => by kernel_rfl) (fun _ => by kernel_rfl) ?_
  refine rw_nil ?_
  refine nw_then ?_
  refine cw_cond_f (fun _ => by kernel_rfl) ?_
  refine cw_exit ?_
  refine nw_exit_then ?_
  refine nw_exit_then ?_
  refine nw_exit_here ?_
  refine nw_then ?_
  refine cw_seq ?_
  refine cw_draw (fun v => Al W v g m gr most L a' n' c' ∧ Al W v g2 m2 gq most M b' nb cb) (by kernel_rfl) (⟨hA.drew, hB.drew⟩) ?_
  refine dw_take 0 94 (.pointer (some ⟨g, 0, none⟩)) rfl (by kernel_rfl) (fun _ _ _ h => h) (fun _ => by kernel_rfl) (fun v hv _ => by kernel_rfl) (show Al W v.drew g m gr most L a' n' c' ∧ Al W v.drew g2 m2 gq most M b' nb cb from ⟨hA.drew, hB.drew⟩) ?_
  refine dw_take 2 96 (.agg #[.int .i64 most, .slice a' n' c']) rfl (by kernel_rfl) (fun _ _ _ h => h) (fun _ => by kernel_rfl) (fun v hv _ => ol_row 28 _ _ _ _ _ _ rfl (by kernel_rfl) hv.1.rb Try.underlying28 rfl (by kernel_rfl)) (show Al W v.drew g m gr most L a' n' c' ∧ Al W v.drew g2 m2 gq most M b' nb cb from ⟨hA.drew, hB.drew⟩) ?_
  refine dw_ready [1] (by kernel_rfl) (by simp) ?_
  refine ar_call 1 95 13 #[.pointer (some ⟨g, 0, none⟩)] rfl (fun _ => by kernel_rfl) (fun _ => by kernel_rfl) (R := fun val w' => (∃ aa nn cc MM, val = .slice aa nn cc ∧ Ds w' aa nn cc MM ∧ Srt MM ∧ MM.Perm (L.map Th.d)) ∧ Below (v.drew).heap.size (v.drew) w') ((list_any (show Al W v.drew g m gr most L a' n' c' ∧ Al W v.drew g2 m2 gq most M b' nb cb from ⟨hA.drew, hB.drew⟩).1.st (show Al W v.drew g m gr most L a' n' c' ∧ Al W v.drew g2 m2 gq most M b' nb cb from ⟨hA.drew, hB.drew⟩).1.iv (by omega)).mono (fun e w' h => by obtain ⟨⟨a1, n1, c1, M1, rfl, h⟩, hb⟩ := h; exact ⟨_, rfl, ⟨a1, n1, c1, M1, rfl, h⟩, hb⟩)) (fun val w' h => ⟨(show Al W v.drew g m gr most L a' n' c' ∧ Al W v.drew g2 m2 gq most M b' nb cb from ⟨hA.drew, hB.drew⟩).1.go h.2, (show Al W v.drew g m gr most L a' n' c' ∧ Al W v.drew g2 m2 gq most M b' nb cb from ⟨hA.drew, hB.drew⟩).2.go h.2⟩) ?_ ar_nil
  rintro val u40 ⟨⟨au1, nu1, cu1, Mu1, rfl, hdu1, hsu1, hpu1⟩, hb41⟩
  have Su40 : Al W u40 g m gr most L a' n' c' ∧ Al W u40 g2 m2 gq most M b' nb cb := ⟨(show Al W v.drew g m gr most L a' n' c' ∧ Al W v.drew g2 m2 gq most M b' nb cb from ⟨hA.drew, hB.drew⟩).1.go hb41, (show Al W v.drew g m gr most L a' n' c' ∧ Al W v.drew g2 m2 gq most M b' nb cb from ⟨hA.drew, hB.drew⟩).2.go hb41⟩
  refine dw_ready [3] (by kernel_rfl) (by simp) ?_
  refine ar_call 3 97 14 #[.agg #[.int .i64 most, .slice a' n' c']] rfl (fun _ => by kernel_rfl) (fun _ => by kernel_rfl) (R := fun val w' => (∃ aa nn cc MM, val = .slice aa nn cc ∧ Ds w' aa nn cc MM ∧ Srt MM ∧ MM.Perm (L.map Th.d)) ∧ Below (u40).heap.size (u40) w') ((rlist_any most _ _ _ L (u40) Su40.1.ls Su40.1.iv.nd (by rw [Su40.1.len]; omega)).mono (fun e w' h => by obtain ⟨⟨a1, n1, c1, M1, rfl, h⟩, hb⟩ := h; exact ⟨_, rfl, ⟨a1, n1, c1, M1, rfl, h⟩, hb⟩)) (fun val w' h => ⟨Su40.1.go h.2, Su40.2.go h.2⟩) ?_ ar_nil
  rintro val u42 ⟨⟨au2, nu2, cu2, Mu2, rfl, hdu2, hsu2, hpu2⟩, hb43⟩
  have Su42 : Al W u42 g m gr most L a' n' c' ∧ Al W u42 g2 m2 gq most M b' nb cb := ⟨Su40.1.go hb43, Su40.2.go hb43⟩
  replace hdu1 := hdu1.go hb43
  obtain rfl : Mu1 = Mu2 := srt_eq hsu1 hsu2 (hpu1.trans hpu2.symm)
  refine dw_ready [4] (by kernel_rfl) (by simp) ?_
  refine ar_call 4 98 12 #[.slice au1 nu1 cu1, .slice au2 nu2 cu2] rfl (fun _ => by kernel_rfl) (fun _ => by kernel_rfl) (R := fun val w' => val = .bool true ∧ Below (u42).heap.size (u42) w') ((same_any hdu1 hdu2).mono (fun e w' h => ⟨_, h.1, by simp, h.2⟩)) (fun val w' h => ⟨Su42.1.go h.2, Su42.2.go h.2⟩) ?_ ar_nil
  rintro val u44 ⟨rfl, hb45⟩
  have Su44 : Al W u44 g m gr most L a' n' c' ∧ Al W u44 g2 m2 gq most M b' nb cb := ⟨Su42.1.go hb45, Su42.2.go hb45⟩
  refine dw_take 5 99 (.bool true) rfl (by kernel_rfl) (fun _ _ _ h => h) (fun _ => by kernel_rfl) (fun v hv _ => by kernel_rfl) Su44 ?_
  refine dw_take 6 100 (.pointer (some ⟨g2, 0, none⟩)) rfl (by kernel_rfl) (fun _ _ _ h => h) (fun _ => by kernel_rfl) (fun v hv _ => by kernel_rfl) Su44 ?_
  refine dw_take 8 102 (.agg #[.int .i64 most, .slice b' nb cb]) rfl (by kernel_rfl) (fun _ _ _ h => h) (fun _ => by kernel_rfl) (fun v hv _ => ol_row 28 _ _ _ _ _ _ rfl (by kernel_rfl) hv.2.rb Try.underlying28 rfl (by kernel_rfl)) Su44 ?_
  refine dw_ready [7] (by kernel_rfl) (by simp) ?_
  refine ar_call 7 101 13 #[.pointer (some ⟨g2, 0, none⟩)] rfl (fun _ => by kernel_rfl) (fun _ => by kernel_rfl) (R := fun val w' => (∃ aa nn cc MM, val = .slice aa nn cc ∧ Ds w' aa nn cc MM ∧ Srt MM ∧ MM.Perm (M.map Th.d)) ∧ Below (u44).heap.size (u44) w') ((list_any Su44.2.st Su44.2.iv (by omega)).mono (fun e w' h => by obtain ⟨⟨a1, n1, c1, M1, rfl, h⟩, hb⟩ := h; exact ⟨_, rfl, ⟨a1, n1, c1, M1, rfl, h⟩, hb⟩)) (fun val w' h => ⟨Su44.1.go h.2, Su44.2.go h.2⟩) ?_ ar_nil
  rintro val u46 ⟨⟨au3, nu3, cu3, Mu3, rfl, hdu3, hsu3, hpu3⟩, hb47⟩
  have Su46 : Al W u46 g m gr most L a' n' c' ∧ Al W u46 g2 m2 gq most M b' nb cb := ⟨Su44.1.go hb47, Su44.2.go hb47⟩
  refine dw_ready [9] (by kernel_rfl) (by simp) ?_
  refine ar_call 9 103 14 #[.agg #[.int .i64 most, .slice b' nb cb]] rfl (fun _ => by kernel_rfl) (fun _ => by kernel_rfl) (R := fun val w' => (∃ aa nn cc MM, val = .slice aa nn cc ∧ Ds w' aa nn cc MM ∧ Srt MM ∧ MM.Perm (M.map Th.d)) ∧ Below (u46).heap.size (u46) w') ((rlist_any most _ _ _ M (u46) Su46.2.ls Su46.2.iv.nd (by rw [Su46.2.len]; omega)).mono (fun e w' h => by obtain ⟨⟨a1, n1, c1, M1, rfl, h⟩, hb⟩ := h; exact ⟨_, rfl, ⟨a1, n1, c1, M1, rfl, h⟩, hb⟩)) (fun val w' h => ⟨Su46.1.go h.2, Su46.2.go h.2⟩) ?_ ar_nil
  rintro val u48 ⟨⟨au4, nu4, cu4, Mu4, rfl, hdu4, hsu4, hpu4⟩, hb49⟩
  have Su48 : Al W u48 g m gr most L a' n' c' ∧ Al W u48 g2 m2 gq most M b' nb cb := ⟨Su46.1.go hb49, Su46.2.go hb49⟩
  replace hdu3 := hdu3.go hb49
  obtain rfl : Mu3 = Mu4 := srt_eq hsu3 hsu4 (hpu3.trans hpu4.symm)
  refine dw_ready [10] (by kernel_rfl) (by simp) ?_
  refine ar_call 10 104 12 #[.slice au3 nu3 cu3, .slice au4 nu4 cu4] rfl (fun _ => by kernel_rfl) (fun _ => by kernel_rfl) (R := fun val w' => val = .bool true ∧ Below (u48).heap.size (u48) w') ((same_any hdu3 hdu4).mono (fun e w' h => ⟨_, h.1, by simp, h.2⟩)) (fun val w' h => ⟨Su48.1.go h.2, Su48.2.go h.2⟩) ?_ ar_nil
  rintro val u50 ⟨rfl, hb51⟩
  have Su50 : Al W u50 g m gr most L a' n' c' ∧ Al W u50 g2 m2 gq most M b' nb cb := ⟨Su48.1.go hb51, Su48.2.go hb51⟩
  refine dw_take 11 105 (.bool true) rfl (by kernel_rfl) (fun _ _ _ h => h) (fun _ => by kernel_rfl) (fun v hv _ => by kernel_rfl) Su50 ?_
  refine dw_take 12 4 (.bool true) rfl (by kernel_rfl) (fun _ _ _ h => h) (fun _ => by kernel_rfl) (fun v hv _ => by kernel_rfl) Su50 ?_
  refine dw_done (by kernel_rfl) ?_
  refine nw_then ?_
  refine cw_ret ?_
  exact nw_ret_body (.bool true) (fun _ => by kernel_rfl) ⟨rfl, below_go hnW.below Su50.1.bel⟩
end Go.Proofs.Ytjpcfdhkgfaeeaa

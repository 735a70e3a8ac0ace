/- The statement TrieRange: a range over all tells what there was as it began, whatever is done while it goes on; it may be left, and gone over within itself. -/
import Derived.Test.YtalhnnjpjaeakabGreatG33
import Derived.Test.YtalhnnjpjaeakabGreatG00
import Derived.ProofKit
import Derived.OpenShut
import Derived.ShutString
import Derived.ChangeOld
import Derived.SizedLaws
import Derived.Test.YtalhnnjpjaeakabGreatG30
namespace Go.Proofs.YtalhnnjpjaeakabGreat
open Go.RowKit
open Tr
set_option linter.unusedVariables false
set_option maxRecDepth 100000
theorem len_delR (k : List Int) : ∀ l : PList, (delR k l).length ≤ l.length
  | [] => by simp [delR]
  | e :: r => by
    have := len_delR k r
    simp only [delR]
    split
    · simp; omega
    · split <;> simp
theorem len_chL (l : PList) (y : Opx) : (chL l y).length ≤ l.length + 1 := by
  unfold chL
  split
  · exact len_putL l y.k y.x
  · unfold delL
    split
    · have := len_delR y.k l; omega
    · omega
def KB (gL gI : Nat) : Nat → Prop := fun b => b ≠ gL ∧ b ≠ gI
/-- What holds ahead of each round. -/
structure RgI (w : World) (gW gR gT gL gI g : Nat) (aW : Option Addr) (nW cW : Nat) (aL : Option Addr) (nL cL : Nat) (vs : List (Value × Value)) (l : PList) (pre : PList) (W : World) : Prop where
  b : Bl w W
  xw : Rw gW W #[.slice aW nW cW] 22
  xr : Rw gR W #[.bool false] 4
  xt : Rw gT W #[.pointer (some ⟨g, 0, none⟩)] 23
  xl : Rw gL W #[.slice aL nL cL] 26
  xi : Rw gI W #[.int .i64 ((pre.length : Nat) : Int)] 3
  xp : PAt (KB gL gI) W aL nL cL vs l
  tr : ∃ t', Tri (KB gL gI) W g t'
theorem RgI.own {w : World} {gW gR gT gL gI g : Nat} {aW : Option Addr} {nW cW : Nat} {aL : Option Addr} {nL cL : Nat} {vs : List (Value × Value)} {l : PList} {B : Nat} (hB : w.heap.size ≤ B) : OwnFrom B (RgI w gW gR gT gL gI g aW nW cW aL nL cL vs l) := fun pre X Y row hs hg hrow => by
  have hk := kp_own hg hrow X.heap.size
  have hr : ∀ {g' : Nat} {cells : Array Value} {T : TypeId}, Rw g' X cells T → Rw g' Y cells T := fun h => h.kp hk (lt_of_get h) id
  obtain ⟨t', ht⟩ := hs.tr
  exact ⟨Below.grown hs.b hg hs.b.size (fun k e => Nat.le_trans hB (hrow k e).1), hr hs.xw, hr hs.xr, hr hs.xt, hr hs.xl, hr hs.xi, hs.xp.kp hk (Nat.le_refl _) (fun _ _ h => h), t', ht.kp hk (Nat.le_refl _) (fun _ _ h => h) id⟩
/-- What the test of a round reads. -/
structure S14 (K : Nat → Prop) (M gI gL gE oE i : Nat) (nL cL : Nat) (a3 a4 a1 a2 : Option Addr) (n3 c3 n4 c4 n1 c1 n2 c2 : Nat) (k x : List Int) (v : World) : Prop where
  ci : v.cell? ⟨gI, 0, none⟩ = some (.int .i64 ((i : Nat) : Int))
  cl : v.cell? ⟨gL, 0, none⟩ = some (.slice (some ⟨gE, oE, none⟩) nL cL)
  cc : Cl2 v ⟨gE, oE + i * 2, none⟩ ⟨gE, oE + i * 2 + 1, none⟩ (.slice a3 n3 c3) (.slice a4 n4 c4)
  k3 : Sk K v a3 n3 c3 k
  x4 : Sk K v a4 n4 c4 x
  k1 : Sk (fun b => M ≤ b) v a1 n1 c1 k
  x2 : Sk (fun b => M ≤ b) v a2 n2 c2 x
theorem S14.drew {K : Nat → Prop} {M gI gL gE oE i : Nat} {nL cL : Nat} {a3 a4 a1 a2 : Option Addr} {n3 c3 n4 c4 n1 c1 n2 c2 : Nat} {k x : List Int} {v : World} (h : S14 K M gI gL gE oE i nL cL a3 a4 a1 a2 n3 c3 n4 c4 n1 c1 n2 c2 k x v) : S14 K M gI gL gE oE i nL cL a3 a4 a1 a2 n3 c3 n4 c4 n1 c1 n2 c2 k x v.drew := ⟨h.ci, h.cl, h.cc.drew, h.k3.drew, h.x4.drew, h.k1.drew, h.x2.drew⟩
structure S17 (gT gW gI g gS oS i : Nat) (nW cW : Nat) (cs : List Value) (v : World) : Prop where
  ct : v.cell? ⟨gT, 0, none⟩ = some (.pointer (some ⟨g, 0, none⟩))
  cw : v.cell? ⟨gW, 0, none⟩ = some (.slice (some ⟨gS, oS, none⟩) nW cW)
  ci : v.cell? ⟨gI, 0, none⟩ = some (.int .i64 ((i : Nat) : Int))
  rg : v.rangeAt gS (oS + i * 3) cs
theorem S17.drew {gT gW gI g gS oS i : Nat} {nW cW : Nat} {cs : List Value} {v : World} (h : S17 gT gW gI g gS oS i nW cW cs v) : S17 gT gW gI g gS oS i nW cW cs v.drew := ⟨h.ct, h.cw, h.ci, h.rg⟩
theorem S17.touch {gT gW gI g gS oS i : Nat} {nW cW : Nat} {cs : List Value} {v u : World} (h : S17 gT gW gI g gS oS i nW cW cs v) (ht : Touch g v u) (h1 : gT ≠ g) (h2 : gW ≠ g) (h3 : gI ≠ g) (h4 : gS ≠ g) : S17 gT gW gI g gS oS i nW cW cs u := by
  have hc : ∀ {b o : Nat} {x : Value}, b ≠ g → v.cell? ⟨b, o, none⟩ = some x → u.cell? ⟨b, o, none⟩ = some x := fun hb hx => (World.cell?_of_block (a := ⟨_, _, none⟩) (ht.block _ (block_lt_of_cell hx) hb)).trans hx
  exact ⟨hc h1 h.ct, hc h2 h.cw, hc h3 h.ci, fun j x hj => hc h4 (h.rg j x hj)⟩
/-- The record of the loop around. -/
def LpA (lp : Nat) (r : Loop) (v : World) : Prop := v.heap[lp]? = some (.loop r)
theorem LpA.go {lp : Nat} {r : Loop} {v u : World} (h : LpA lp r v) (hb : Below v.heap.size v u) : LpA lp r u := (hb.block lp (lt_of_get h)).trans h
theorem LpA.drew {lp : Nat} {r : Loop} {v : World} (h : LpA lp r v) : LpA lp r v.drew := h
theorem LpA.touch {lp : Nat} {r : Loop} {v u : World} {g' : Nat} (h : LpA lp r v) (ht : Touch g' v u) (hne : lp ≠ g') : LpA lp r u := (ht.block lp (lt_of_get h) hne).trans h
theorem LpA.ne {lp : Nat} {r : Loop} {v : World} {g' : Nat} {cells : Array Value} {T : TypeId} (h : LpA lp r v) (hr : Rw g' v cells T) : lp ≠ g' := fun e => by
  unfold LpA at h; unfold Rw at hr
  rw [e, hr] at h; cases h
theorem results_b {fn : Func} {p : Tmp} {f : Nat → Value} (h : fn.results = #[.cell p 4]) (w : World) (g : Nat) (b : Bool) (hp : f p = .pointer (some ⟨g, 0, none⟩)) (hg : Rw g w #[.bool b] 4) : (resF f fn.results).run Tryz.prog w = .ok (.bool b) w := by
  have hc : w.cell? ⟨g, 0, none⟩ = some (.bool b) := by rw [cell_of_row _ _ _ _ _ _ hg]; rfl
  have ha : (isAgg 4).run Tryz.prog w = .ok false w := by simp [isAgg, run_underlying Tryz.underlying4]
  unfold resF
  rw [h]
  simp [hp, asAddr, loadVar, ha, hc]
set_option maxHeartbeats 16000000 in
theorem range_any (a : Option Addr) (n c : Nat) (xs : List Opx) (aW : Option Addr) (nW cW : Nat) (xsW : List Opx) (w : World) (hO : OAt w a n xs) (hn : n ≤ 2600000000000) (hsm : ∀ y ∈ xs, y.kn ≤ 140737488355328 ∧ y.vn ≤ 140737488355328) (hOW : OAt w aW nW xsW) (hnW : nW ≤ 2600000000000) (hsmW : ∀ y ∈ xsW, y.kn ≤ 140737488355328 ∧ y.vn ≤ 140737488355328) :
    Calls Tryz.prog 3 #[.slice a n c, .slice aW nW cW] w fun e w' => e = .returned (.bool true) ∧ Below w.heap.size w w' := by
  have hB := Bl.refl w
  refine cw_enterM Tryz.func3 rfl 87 rfl ?_
  show CW _ _ _ _ _ _ _ [(0, .slice a n c), (1, .slice aW nW cW)] _
  refine cw_seq ?_
  refine cw_region ?_
  refine rw_new 3 #[.slice aW nW cW] 22 (fun _ => by kernel_rfl) (fun _ => by kernel_rfl) ?_
  intro wW gW hnW
  have hgW := hnW.hg
  have hszW := hB.size
  replace hB := hB.go hnW.below
  have hW : Rw gW wW #[.slice aW nW cW] 22 := hnW.row
  have hl0gWR := lt_of_get hW
  refine rw_new 4 #[.bool false] 4 (fun _ => by kernel_rfl) (fun _ => by kernel_rfl) ?_
  intro wR gR hnR
  have hgR := hnR.hg
  have hszR := hB.size
  replace hB := hB.go hnR.below
  replace hW := hW.go hnR.below
  have hR : Rw gR wR #[.bool false] 4 := hnR.row
  refine rw_nil ?_
  refine nw_then ?_
  refine cw_seq ?_
  refine cw_region ?_
  refine rw_call 14 4 #[] (fun _ => by kernel_rfl) (fun _ => by kernel_rfl) (R := fun u w' => (∃ g, u = .tuple #[.pointer (some ⟨g, 0, none⟩), .bool true] ∧ (wR).heap.size ≤ g ∧ Tri An w' g no) ∧ Bl (wR) w') (begun_any (K := An) (fun _ _ => trivial)) ?_
  rintro _ u1 ⟨⟨g, rfl, hgw0, hT⟩, hb2⟩
  have hgw : w.heap.size ≤ g := Nat.le_trans hB.size hgw0
  have hneW : gW ≠ g := by have := lt_of_get hW; omega
  have hneR : gR ≠ g := by have := lt_of_get hR; omega
  replace hB := hB.go hb2
  replace hW := hW.go hb2
  replace hR := hR.go hb2
  have hgl := hT.lt
  refine rp 13 (.tuple #[.pointer (some ⟨g, 0, none⟩), .bool true]) ?_
  refine rp 15 (.pointer (some ⟨g, 0, none⟩)) ?_
  refine rp 16 (.bool true) ?_
  replace hT := hT.oldK
  have hl0gWT := lt_of_get hW
  have hl0gRT := lt_of_get hR
  have hlgT := hT.lt
  refine rw_new 5 #[.pointer none] 23 (fun _ => by kernel_rfl) (fun _ => by kernel_rfl) ?_
  intro wT gT hnT
  have hgT := hnT.hg
  replace hB := hB.go hnT.below
  replace hW := hW.go hnT.below
  replace hR := hR.go hnT.below
  replace hT := hT.go hnT.below
  have hTb : Rw gT wT #[.pointer none] 23 := hnT.row
  replace hT := hT.mono (K' := fun b => b < gT) (fun b hb => by have := hb.2; omega)
  have hszT := hB.size
  refine rw_set1 gT 0 (.pointer (some ⟨g, 0, none⟩)) (fun _ => by kernel_rfl) (fun _ => ol_setC 23 _ _ gT 0 _ 23 _ hTb rfl (by kernel_rfl) (by kernel_rfl) (by show 0 < 1; omega) rfl rfl (by kernel_rfl)) ?_
  intro w3 hst
  have hlR := lt_of_get hR
  have hlW := lt_of_get hW
  replace hTb : Rw gT w3 #[.pointer (some ⟨g, 0, none⟩)] 23 := hTb.set hst rfl
  replace hB : Bl w w3 := hst.touch.below hB (by omega) hB.size
  replace hT := hT.tou hst.touch (by simp) (by omega)
  replace hW := hW.apart hst (by omega)
  replace hR := hR.apart hst (by omega)
  refine rp 6 (.bool true) ?_
  refine rw_nil ?_
  refine nw_then ?_
  refine cw_seq ?_
  refine cw_seq ?_
  refine cw_region ?_
  refine rp 17 (.bool true) ?_
  refine rp 18 (.bool false) ?_
  refine rp 19 (.bool false) ?_
  refine rv 20 (.pointer (some ⟨g, 0, none⟩)) (fun _ => ol_cell 23 _ ⟨gT, 0, none⟩ _ _ rfl (by kernel_rfl) (by rw [cell_of_row _ _ _ _ _ _ hTb]; rfl) Tryz.underlying23 rfl) ?_
  refine rp 21 (.bool false) ?_
  refine rp 22 (.bool false) ?_
  refine rw_nil ?_
  refine nw_then ?_
  refine cw_cond_f (fun _ => by kernel_rfl) ?_
  refine cw_skip ?_
  refine nw_then ?_
  refine cw_seq ?_
  refine cw_region ?_
  replace hT := hT.oldK
  have hl0gWL := lt_of_get hW
  have hl0gRL := lt_of_get hR
  have hl0gTL := lt_of_get hTb
  have hlgL := hT.lt
  refine rw_new 7 #[.slice none 0 0] 26 (fun _ => by kernel_rfl) (fun _ => by kernel_rfl) ?_
  intro wL gL hnL
  have hgL := hnL.hg
  have hszL := hB.size
  replace hB := hB.go hnL.below
  replace hW := hW.go hnL.below
  replace hR := hR.go hnL.below
  replace hT := hT.go hnL.below
  replace hTb := hTb.go hnL.below
  have hL : Rw gL wL #[.slice none 0 0] 26 := hnL.row
  replace hT := hT.mono (K' := fun b => b ≠ gL) (fun b hb => by have := hb.2; omega)
  refine rw_nil ?_
  refine nw_then ?_
  refine cw_seq ?_
  refine cw_seq ?_
  refine cw_region ?_
  refine rp 23 (.slice a n c) ?_
  refine rp 24 (.int .i64 n) ?_
  refine rp 25 (.int .i64 0) ?_
  refine rw_nil ?_
  refine nw_then ?_
  refine cw_block ?_
  have hneT : gT ≠ g := by omega
  have hneL : gL ≠ g := by omega
  refine cw_loop (X := Nat × Tr × PList × Option Addr × Nat × Nat) (fun z => [(25, .int .i64 ((z.1 : Nat) : Int)), (23, .slice a n c), (24, .int .i64 n), (3, .pointer (some ⟨gW, 0, none⟩)), (4, .pointer (some ⟨gR, 0, none⟩)), (5, .pointer (some ⟨gT, 0, none⟩)), (7, .pointer (some ⟨gL, 0, none⟩))]) (fun z v => Bl w v ∧ Rw gW v #[.slice aW nW cW] 22 ∧ Rw gR v #[.bool false] 4 ∧ Rw gT v #[.pointer (some ⟨g, 0, none⟩)] 23 ∧ Rw gL v #[.slice z.2.2.2.1 z.2.2.2.2.1 z.2.2.2.2.2] 26 ∧ Tri (fun b => b ≠ gL) v g z.2.1 ∧ (∃ vs, PAt (fun b => b ≠ gL) v z.2.2.2.1 z.2.2.2.2.1 z.2.2.2.2.2 vs z.2.2.1) ∧ Rel z.2.1 z.2.2.1 ∧ z.1 ≤ n ∧ z.2.2.1.length ≤ z.1) (fun z => n - z.1) (0, no, [], none, 0, 0) (by exact ⟨fun _ => by kernel_rfl, ⟨fun _ => by kernel_rfl, ⟨fun _ => by kernel_rfl, ⟨fun _ => by kernel_rfl, ⟨fun _ => by kernel_rfl, ⟨fun _ => by kernel_rfl, ⟨fun _ => by kernel_rfl, trivial⟩⟩⟩⟩⟩⟩⟩) ⟨hB, hW, hR, hTb, hL, hT, ⟨_, PAt.empty _ _⟩, Rel.nil, Nat.zero_le _, Nat.le_refl _⟩ ?_
  clear hB hW hR hTb hL hT
  rintro ⟨j, t, l, aL, nL, cL⟩ v ⟨hB, hW, hR, hTb, hL, hT, ⟨vs, hP⟩, hRel, hj, hll⟩
  simp only at hB hW hR hTb hL hT hP hRel hj hll
  show CW _ _ _ _ _ _ _ [(25, .int .i64 ((j : Nat) : Int)), (23, .slice a n c), (24, .int .i64 n), (3, .pointer (some ⟨gW, 0, none⟩)), (4, .pointer (some ⟨gR, 0, none⟩)), (5, .pointer (some ⟨gT, 0, none⟩)), (7, .pointer (some ⟨gL, 0, none⟩))] _
  by_cases hlt : j < n
  · skip
    have hjx : j < xs.length := by rw [hO.len]; exact hlt
    obtain ⟨y, hy⟩ : ∃ y, xs[j]? = some y := ⟨_, List.getElem?_eq_getElem hjx⟩
    have hym : y ∈ xs := List.mem_of_getElem? hy
    obtain ⟨gS, oS, ea, hrow⟩ := hO.row j y hy
    subst ea
    refine cw_seq ?_
    refine cw_region ?_
    refine rv 26 (.bool true) (fun _ => ol_conv (v := .bool (decide (((j : Nat) : Int) < (n : Int)))) (by kernel_rfl) (congrArg Value.bool (decide_eq_true (by omega)))) ?_
    refine rw_nil ?_
    refine nw_then ?_
    refine cw_seq ?_
    refine cw_cond_t (fun _ => by kernel_rfl) ?_
    refine cw_skip ?_
    refine nw_then ?_
    refine cw_seq ?_
    refine cw_block ?_
    refine cw_seq ?_
    refine cw_region ?_
    refine rv 27 (.pointer (some ⟨gS, oS + j * 3, none⟩)) (fun _ => ol_index 22 _ _ gS oS j n c 3 29 rfl (by kernel_rfl) (by kernel_rfl) hlt Tryz.underlying22 (by kernel_rfl)) ?_
    refine rv 28 (.agg #[.int .i64 y.z, .slice y.ka y.kn y.kc, .slice y.va y.vn y.vc]) (fun _ => ol_mid 29 _ gS (oS + j * 3) y.cells.toList _ rfl (by kernel_rfl) (rng_go hrow hB) Tryz.underlying29 rfl (by kernel_rfl)) ?_
    refine rw_new 9 #[.int .i64 0, .slice none 0 0, .slice none 0 0] 29 (fun _ => by kernel_rfl) (fun _ => by kernel_rfl) ?_
    intro wA gA hnA
    refine rw_put gA #[.int .i64 y.z, .slice y.ka y.kn y.kc, .slice y.va y.vn y.vc] (fun _ => by kernel_rfl) (fun _ => ol_store 29 _ _ _ _ _ _ rfl (by kernel_rfl) (by kernel_rfl) hnA.row (by kernel_rfl) rfl (by kernel_rfl)) ?_
    intro wC hpC
    have hnC := hnA.put hpC
    have hgA := hnC.hg
    have htl := hT.lt
    have hlL := lt_of_get hL
    have hlR := lt_of_get hR
    replace hB := hB.go hnC.below
    replace hT := hT.go hnC.below
    replace hP := hP.go hnC.below
    replace hW := hW.go hnC.below
    replace hR := hR.go hnC.below
    replace hTb := hTb.go hnC.below
    replace hL := hL.go hnC.below
    have hA : Rw gA wC #[.int .i64 y.z, .slice y.ka y.kn y.kc, .slice y.va y.vn y.vc] 29 := hnC.row
    refine rw_nil ?_
    refine nw_then ?_
    refine cw_region ?_
    refine rv 30 (.pointer (some ⟨g, 0, none⟩)) (fun _ => ol_cell 23 _ ⟨gT, 0, none⟩ _ _ rfl (by kernel_rfl) (by rw [cell_of_row _ _ _ _ _ _ hTb]; rfl) Tryz.underlying23 rfl) ?_
    refine rv 31 (.slice aL nL cL) (fun _ => ol_cell 26 _ ⟨gL, 0, none⟩ _ _ rfl (by kernel_rfl) (by rw [cell_of_row _ _ _ _ _ _ hL]; rfl) Tryz.underlying26 rfl) ?_
    refine rv 32 (.agg (#[.int .i64 y.z, .slice y.ka y.kn y.kc, .slice y.va y.vn y.vc])) (fun _ => ol_row 29 _ _ _ _ _ _ rfl (by kernel_rfl) hA Tryz.underlying29 rfl (by kernel_rfl)) ?_
    have hzP := hP.ll
    refine rw_call 33 5 #[.pointer (some ⟨g, 0, none⟩), .slice aL nL cL, .agg (#[.int .i64 y.z, .slice y.ka y.kn y.kc, .slice y.va y.vn y.vc])] (fun _ => by kernel_rfl) (fun _ => by kernel_rfl) (R := fun u w' => (∃ a' n' c' vs' b, u = .tuple #[.slice a' n' c', .bool b] ∧ PAt (fun b => b ≠ gL ∨ (wC).heap.size ≤ b) w' a' n' c' vs' (chL l y) ∧ (Rel t l → b = true)) ∧ Tri (fun b => b ≠ gL ∨ (wC).heap.size ≤ b) w' g (chT t y) ∧ Touch g (wC) w') (changes_any hT hP ((hO.k y hym).an.go hB).ag ((hO.x y hym).an.go hB).ag (by omega) (hsm y hym).1 (hsm y hym).2 (fun j k x h => by have := ((hRel.m k x).1 (List.mem_of_getElem? h)).2.1; omega)) ?_
    rintro _ u4 ⟨⟨aL2, nL2, cL2, vs2, b2, rfl, hPn, _⟩, hTn, hto⟩
    have hlL2 := lt_of_get hL
    replace hW := hW.touch hto (by omega)
    replace hR := hR.touch hto (by omega)
    replace hTb := hTb.touch hto (by omega)
    replace hL := hL.touch hto (by omega)
    replace hA := hA.touch hto (by omega)
    replace hB : Bl w u4 := hto.below hB hgw hB.size
    have hP := hPn.mono (K' := fun b => b ≠ gL) (fun b hb e => by rcases hb with h | h; exact h e; omega)
    replace hT := hTn.mono (K' := fun b => b ≠ gL) (fun b hb e => by rcases hb with h | h; exact h e; omega)
    refine rp 29 (.tuple #[.slice aL2 nL2 cL2, .bool b2]) ?_
    refine rp 34 (.slice aL2 nL2 cL2) ?_
    refine rp 35 (.bool b2) ?_
    refine rw_set1 gL 0 (.slice aL2 nL2 cL2) (fun _ => by kernel_rfl) (fun _ => ol_setC 26 _ _ gL 0 _ 26 _ hL rfl (by kernel_rfl) (by kernel_rfl) (by show 0 < 1; omega) rfl rfl (by kernel_rfl)) ?_
    intro w5 hst
    replace hB : Bl w w5 := hst.touch.below hB (by omega) hB.size
    replace hT := hT.tou hst.touch (by simp) (by omega)
    replace hW := hW.apart hst (by omega)
    replace hR := hR.apart hst (by omega)
    replace hTb := hTb.apart hst (by omega)
    replace hL : Rw gL w5 #[.slice aL2 nL2 cL2] 26 := hL.set hst rfl
    replace hA := hA.apart hst (by omega)
    replace hP := hP.tou hst.touch (by simp)
    refine rw_nil ?_
    refine nw_block ?_
    refine nw_then ?_
    refine cw_region ?_
    refine rv 36 (.int .i64 (((j : Nat) : Int) + 1)) (fun _ => ol_conv (v := .int .i64 (IntKind.i64.wrap (((j : Nat) : Int) + 1))) (by kernel_rfl) (congrArg (Value.int .i64) (wrap64 (by omega) (by omega)))) ?_
    refine rp 25 (.int .i64 (((j : Nat) : Int) + 1)) ?_
    refine rw_nil ?_
    have hl2 := len_chL l y
    exact nw_round (E := fun z => [(25, .int .i64 ((z.1 : Nat) : Int)), (23, .slice (some ⟨gS, oS, none⟩) n c), (24, .int .i64 n), (3, .pointer (some ⟨gW, 0, none⟩)), (4, .pointer (some ⟨gR, 0, none⟩)), (5, .pointer (some ⟨gT, 0, none⟩)), (7, .pointer (some ⟨gL, 0, none⟩))]) (R := fun z v => Bl w v ∧ Rw gW v #[.slice aW nW cW] 22 ∧ Rw gR v #[.bool false] 4 ∧ Rw gT v #[.pointer (some ⟨g, 0, none⟩)] 23 ∧ Rw gL v #[.slice z.2.2.2.1 z.2.2.2.2.1 z.2.2.2.2.2] 26 ∧ Tri (fun b => b ≠ gL) v g z.2.1 ∧ (∃ vs, PAt (fun b => b ≠ gL) v z.2.2.2.1 z.2.2.2.2.1 z.2.2.2.2.2 vs z.2.2.1) ∧ Rel z.2.1 z.2.2.1 ∧ z.1 ≤ n ∧ z.2.2.1.length ≤ z.1) (μ := fun z => n - z.1) (x := (j, t, l, aL, nL, cL)) (j + 1, chT t y, chL l y, aL2, nL2, cL2) (by exact ⟨fun _ => by kernel_rfl, ⟨fun _ => by kernel_rfl, ⟨fun _ => by kernel_rfl, ⟨fun _ => by kernel_rfl, ⟨fun _ => by kernel_rfl, ⟨fun _ => by kernel_rfl, ⟨fun _ => by kernel_rfl, trivial⟩⟩⟩⟩⟩⟩⟩) ⟨hB, hW, hR, hTb, hL, hT, ⟨_, hP⟩, hRel.ch (hO.k y hym).b, by omega, by show (chL l y).length ≤ j + 1; omega⟩ (by show n - (j + 1) < n - j; omega)
  obtain rfl : j = n := by omega
  show CW _ _ _ _ _ _ _ [(25, .int .i64 ((j : Nat) : Int)), (23, .slice a j c), (24, .int .i64 ((j : Nat) : Int)), (3, .pointer (some ⟨gW, 0, none⟩)), (4, .pointer (some ⟨gR, 0, none⟩)), (5, .pointer (some ⟨gT, 0, none⟩)), (7, .pointer (some ⟨gL, 0, none⟩))] _
  have hzP := hP.ll
  have hlL := lt_of_get hL
  have hlT := lt_of_get hTb
  have hlR := lt_of_get hR
  have hlW := lt_of_get hW
  have hlg := hT.lt
  refine cw_seq ?_
  refine cw_region ?_
  refine rv 26 (.bool false) (fun _ => ol_conv (v := .bool (decide (((j : Nat) : Int) < ((j : Nat) : Int)))) (by kernel_rfl) (congrArg Value.bool (decide_eq_false (by omega)))) ?_
  refine rw_nil ?_
  refine nw_then ?_
  refine cw_seq ?_
  refine cw_cond_f (fun _ => by kernel_rfl) ?_
  refine cw_exit ?_
  refine nw_exit_then ?_
  refine nw_exit_then ?_
  refine nw_exit_here ?_
  refine nw_then ?_
  refine cw_seq ?_
  refine cw_region ?_
  replace hT := hT.oldK
  replace hP := hP.old
  have hl0gWI := lt_of_get hW
  have hl0gRI := lt_of_get hR
  have hl0gTI := lt_of_get hTb
  have hl0gLI := lt_of_get hL
  have hlgI := hT.lt
  refine rw_new 10 #[.int .i64 0] 3 (fun _ => by kernel_rfl) (fun _ => by kernel_rfl) ?_
  intro wI gI hnI
  have hgI := hnI.hg
  have hszI := hB.size
  replace hB := hB.go hnI.below
  replace hT := hT.go hnI.below
  replace hP := hP.go hnI.below
  replace hW := hW.go hnI.below
  replace hR := hR.go hnI.below
  replace hTb := hTb.go hnI.below
  replace hL := hL.go hnI.below
  have hI : Rw gI wI #[.int .i64 0] 3 := hnI.row
  replace hT := hT.mono (K' := KB gL gI) (fun b hb => ⟨hb.1, by have := hb.2; omega⟩)
  replace hP := hP.mono (K' := KB gL gI) (fun b hb => ⟨hb.1, by have := hb.2; omega⟩)
  refine rw_set1 gI 0 (.int .i64 0) (fun _ => by kernel_rfl) (fun _ => ol_setC 3 _ _ gI 0 _ 3 _ hI rfl (by kernel_rfl) (by kernel_rfl) (by show 0 < 1; omega) rfl rfl (by kernel_rfl)) ?_
  intro w6 hst
  replace hB : Bl w w6 := hst.touch.below hB (by omega) hB.size
  replace hT := hT.tou hst.touch (by simp [KB]) (by omega)
  replace hP := hP.tou hst.touch (by simp [KB])
  replace hW := hW.apart hst (by omega)
  replace hR := hR.apart hst (by omega)
  replace hTb := hTb.apart hst (by omega)
  replace hL := hL.apart hst (by omega)
  replace hI : Rw gI w6 #[.int .i64 0] 3 := hI.set hst rfl
  refine rw_nil ?_
  refine nw_then ?_
  refine cw_seq ?_
  refine cw_seq ?_
  refine cw_region ?_
  refine rv 37 (.pointer (some ⟨g, 0, none⟩)) (fun _ => ol_cell 23 _ ⟨gT, 0, none⟩ _ _ rfl (by kernel_rfl) (by rw [cell_of_row _ _ _ _ _ _ hTb]; rfl) Tryz.underlying23 rfl) ?_
  refine rw_call 38 6 #[.pointer (some ⟨g, 0, none⟩)] (fun _ => by kernel_rfl) (fun _ => by kernel_rfl) (R := fun u w' => (∃ gB, u = .func (.func 15) #[] #[.pointer (some ⟨gB, 0, none⟩)] ∧ Rw gB w' #[.pointer (some ⟨g, 0, none⟩)] 23 ∧ (w6).heap.size ≤ gB) ∧ Bl (w6) w') (all_any (g := g)) ?_
  rintro _ u7 ⟨⟨gB, rfl, hgB, hzgB⟩, hb8⟩
  replace hB := hB.go hb8
  replace hT := hT.go hb8
  replace hP := hP.go hb8
  replace hW := hW.go hb8
  replace hR := hR.go hb8
  replace hTb := hTb.go hb8
  replace hL := hL.go hb8
  replace hI := hI.go hb8
  refine rw_nil ?_
  refine nw_then ?_
  refine cw_block ?_
  refine cw_sub [(3, .pointer (some ⟨gW, 0, none⟩)), (4, .pointer (some ⟨gR, 0, none⟩)), (5, .pointer (some ⟨gT, 0, none⟩)), (7, .pointer (some ⟨gL, 0, none⟩)), (10, .pointer (some ⟨gI, 0, none⟩)), (38, .func (.func 15) #[] #[.pointer (some ⟨gB, 0, none⟩)])] (by exact ⟨fun _ => by kernel_rfl, ⟨fun _ => by kernel_rfl, ⟨fun _ => by kernel_rfl, ⟨fun _ => by kernel_rfl, ⟨fun _ => by kernel_rfl, ⟨fun _ => by kernel_rfl, trivial⟩⟩⟩⟩⟩⟩) ?_
  have hlI := lt_of_get hI
  have hIne : gI ≠ g := by omega
  have hents := hRel.ents
  obtain ⟨⟨vT, hrT, htT⟩, hok⟩ := id hT
  have htT2 := htT.neK hT
  refine cw_rangeV 15 #[.pointer (some ⟨gB, 0, none⟩)] (fun _ => by kernel_rfl) (by decide) (by decide) (by decide) (fun args w => by kernel_rfl) (U := fun b => b = g ∨ b = gI) (L := l) (fun lp J Wq hbq V hJ0 => (all1_any V (hgB.go hbq) hJ0 (Nat.le_refl _) (hrT.go hbq) (htT2.go hbq) hok (fun b hb hu => by rcases hu with e | e; exact hb.2 e; exact hb.1.2 e) (by rw [hents]; exact List.prefix_rfl)).mono (fun e W' ⟨u, e1, h⟩ => ⟨u, e1, by rw [← hents]; exact h.resolve_right id⟩)) (fun b hu => by rcases hu with e | e <;> omega) (RgI w gW gR gT gL gI g aW nW cW aL nL cL vs l) (RgI.own hB.size) ⟨hB, hW, hR, hTb, hL, hI, hP, _, hT⟩ (fun u v e => e = [(3, .pointer (some ⟨gW, 0, none⟩)), (4, .pointer (some ⟨gR, 0, none⟩)), (5, .pointer (some ⟨gT, 0, none⟩)), (7, .pointer (some ⟨gL, 0, none⟩)), (10, .pointer (some ⟨gI, 0, none⟩)), (11, u), (12, v)]) ?_ ?_ ?_
  · intro lp u v W
    refine cw_seq ?_
    refine cw_region ?_
    refine rp 11 (u) ?_
    refine rw_nil ?_
    refine nw_then ?_
    refine cw_region ?_
    refine rp 12 (v) ?_
    refine rw_nil ?_
    exact fun a ha => ⟨rfl, _, ha.sub (env' := [(3, .pointer (some ⟨gW, 0, none⟩)), (4, .pointer (some ⟨gR, 0, none⟩)), (5, .pointer (some ⟨gT, 0, none⟩)), (7, .pointer (some ⟨gL, 0, none⟩)), (10, .pointer (some ⟨gI, 0, none⟩)), (11, u), (12, v)]) (by exact ⟨fun _ => by kernel_rfl, ⟨fun _ => by kernel_rfl, ⟨fun _ => by kernel_rfl, ⟨fun _ => by kernel_rfl, ⟨fun _ => by kernel_rfl, ⟨fun _ => by kernel_rfl, ⟨fun _ => by kernel_rfl, trivial⟩⟩⟩⟩⟩⟩⟩), rfl⟩
  · intro lp pre W M a1 a2 n1 c1 n2 c2 k x e hlp hrec hIv hpre hM1 hM2 hs1 hs2 he
    subst he
    obtain ⟨rr, hLp⟩ := hrec
    replace hLp : LpA lp rr W := hLp
    obtain ⟨hB, hW, hR, hTb, hL, hI, hP, t', hTr⟩ := hIv
    have hex : l[pre.length]? = some (k, x) := by obtain ⟨sf, hsf⟩ := hpre; rw [← hsf]; simp
    have hlt : pre.length < nL := by rw [← hP.ll]; exact (List.getElem?_eq_some_iff.1 hex).1
    obtain ⟨gE, oE, a3, n3, c3, a4, n4, c4, k3, x3, ea, he3, hc3, hc4, hs3, hs4⟩ := hP.at hlt
    subst ea
    rw [hex] at he3
    cases he3
    have hlpg := hLp.ne (show Rw g W #[_] _ from hTr.ex.choose_spec.1)
    have hlpi := hLp.ne hI
    have hQ := Tq.refl g gI W
    have hlI2 := lt_of_get hI
    have hlg2 := hTr.lt
    have hlL2 := lt_of_get hL
    have hS : S14 (KB gL gI) M gI gL gE oE pre.length nL cL a3 a4 a1 a2 n3 c3 n4 c4 n1 c1 n2 c2 k x W := ⟨by rw [cell_of_row _ _ _ _ _ _ hI]; rfl, by rw [cell_of_row _ _ _ _ _ _ hL]; rfl, ⟨hc3, hc4⟩, hs3, hs4, hs1, hs2⟩
    have hTr0 := hTr
    have hI0 := hI
    refine cw_block ?_
    refine cw_seq ?_
    refine cw_seq ?_
    refine cw_drawR (fun v => S14 (KB gL gI) M gI gL gE oE pre.length nL cL a3 a4 a1 a2 n3 c3 n4 c4 n1 c1 n2 c2 k x v) (by kernel_rfl) (by kernel_rfl) (fun ⟨_, _, h⟩ => h) (hS.drew) ?_
    replace hQ := hQ.drew
    replace hP := hP.drew
    replace hTr := hTr.drew
    replace hLp := hLp.drew
    replace hW := hW.drew
    replace hR := hR.drew
    replace hTb := hTb.drew
    replace hL := hL.drew
    replace hI := hI.drew
    refine dt 0 41 (.int .i64 ((pre.length : Nat) : Int)) (fun v hv _ => ol_cell 3 _ _ _ _ rfl (by kernel_rfl) hv.ci Tryz.underlying3 rfl) hS.drew ?_
    refine dt 1 42 (.slice (some ⟨gE, oE, none⟩) nL cL) (fun v hv _ => ol_cell 26 _ _ _ _ rfl (by kernel_rfl) hv.cl Tryz.underlying26 rfl) hS.drew ?_
    refine dt 2 43 (.int .i64 nL) (fun v hv _ => by kernel_rfl) hS.drew ?_
    refine dt 3 44 (.bool false) (fun v hv => (fun _ => ol_conv (v := .bool (decide (((pre.length : Nat) : Int) ≥ (nL : Int)))) (by kernel_rfl) (congrArg Value.bool (decide_eq_false (by omega))))) hS.drew ?_
    refine dt 4 45 (.bool false) (fun v hv _ => by kernel_rfl) hS.drew ?_
    refine dt 5 46 (.slice (some ⟨gE, oE, none⟩) nL cL) (fun v hv _ => ol_cell 26 _ _ _ _ rfl (by kernel_rfl) hv.cl Tryz.underlying26 rfl) hS.drew ?_
    refine dt 6 47 (.int .i64 ((pre.length : Nat) : Int)) (fun v hv _ => ol_cell 3 _ _ _ _ rfl (by kernel_rfl) hv.ci Tryz.underlying3 rfl) hS.drew ?_
    refine dt 7 48 (.pointer (some ⟨gE, oE + pre.length * 2, none⟩)) (fun v hv _ => ol_index 26 _ _ gE oE pre.length nL cL 2 36 rfl (by kernel_rfl) (by kernel_rfl) hlt Tryz.underlying26 (by kernel_rfl)) hS.drew ?_
    refine dt 8 49 (.pointer (some ⟨gE, oE + pre.length * 2, none⟩)) (fun v hv _ => by kernel_rfl) hS.drew ?_
    refine dt 9 50 (.slice a3 n3 c3) (fun v hv _ => ol_cell 27 _ _ _ _ rfl (by kernel_rfl) hv.cc.cx Tryz.underlying27 rfl) hS.drew ?_
    refine dt 10 51 (.string (strOfNums k)) (fun v hv _ => hv.k3.run_str _ _ _ rfl (by kernel_rfl)) hS.drew ?_
    refine dt 11 52 (.slice a1 n1 c1) (fun v hv _ => by kernel_rfl) hS.drew ?_
    refine dt 12 53 (.string (strOfNums k)) (fun v hv _ => hv.k1.run_str _ _ _ rfl (by kernel_rfl)) hS.drew ?_
    refine dt 13 54 (.bool false) (fun v hv _ => ol_nes 9 _ _ _ (strOfNums k) (strOfNums k) rfl (by kernel_rfl) (by kernel_rfl) (by simp)) hS.drew ?_
    refine dt 14 55 (.bool false) (fun v hv _ => by kernel_rfl) hS.drew ?_
    refine dt 15 56 (.bool false) (fun v hv _ => by kernel_rfl) hS.drew ?_
    refine dt 16 57 (.slice (some ⟨gE, oE, none⟩) nL cL) (fun v hv _ => ol_cell 26 _ _ _ _ rfl (by kernel_rfl) hv.cl Tryz.underlying26 rfl) hS.drew ?_
    refine dt 17 58 (.int .i64 ((pre.length : Nat) : Int)) (fun v hv _ => ol_cell 3 _ _ _ _ rfl (by kernel_rfl) hv.ci Tryz.underlying3 rfl) hS.drew ?_
    refine dt 18 59 (.pointer (some ⟨gE, oE + pre.length * 2, none⟩)) (fun v hv _ => ol_index 26 _ _ gE oE pre.length nL cL 2 36 rfl (by kernel_rfl) (by kernel_rfl) hlt Tryz.underlying26 (by kernel_rfl)) hS.drew ?_
    refine dt 19 60 (.pointer (some ⟨gE, oE + pre.length * 2 + 1, none⟩)) (fun v hv _ => by kernel_rfl) hS.drew ?_
    refine dt 20 61 (.slice a4 n4 c4) (fun v hv _ => ol_cell 27 _ _ _ _ rfl (by kernel_rfl) hv.cc.cy Tryz.underlying27 rfl) hS.drew ?_
    refine dt 21 62 (.string (strOfNums x)) (fun v hv _ => hv.x4.run_str _ _ _ rfl (by kernel_rfl)) hS.drew ?_
    refine dt 22 63 (.slice a2 n2 c2) (fun v hv _ => by kernel_rfl) hS.drew ?_
    refine dt 23 64 (.string (strOfNums x)) (fun v hv _ => hv.x2.run_str _ _ _ rfl (by kernel_rfl)) hS.drew ?_
    refine dt 24 65 (.bool false) (fun v hv _ => ol_nes 9 _ _ _ (strOfNums x) (strOfNums x) rfl (by kernel_rfl) (by kernel_rfl) (by simp)) hS.drew ?_
    refine dt 25 66 (.bool false) (fun v hv _ => by kernel_rfl) hS.drew ?_
    refine dw_done (by kernel_rfl) ?_
    refine nw_then ?_
    refine cw_cond_f (fun _ => by kernel_rfl) ?_
    refine cw_skip ?_
    refine nw_then ?_
    refine cw_seq ?_
    refine cw_seq ?_
    refine cw_region ?_
    refine rv 67 (.int .i64 ((pre.length : Nat) : Int)) (fun _ => ol_cell 3 _ ⟨gI, 0, none⟩ _ _ rfl (by kernel_rfl) (by rw [cell_of_row _ _ _ _ _ _ hI]; rfl) Tryz.underlying3 rfl) ?_
    refine rv 68 (.slice aW nW cW) (fun _ => ol_cell 22 _ ⟨gW, 0, none⟩ _ _ rfl (by kernel_rfl) (by rw [cell_of_row _ _ _ _ _ _ hW]; rfl) Tryz.underlying22 rfl) ?_
    refine rp 69 (.int .i64 nW) ?_
    refine rp 70 (.bool (decide (((pre.length : Nat) : Int) < (nW : Int)))) ?_
    refine rw_nil ?_
    refine nw_then ?_
    by_cases hwi : pre.length < nW
    · skip
      rw [show decide (((pre.length : Nat) : Int) < (nW : Int)) = true from decide_eq_true (by omega)]
      show CW _ _ _ _ _ _ _ [(70, .bool true), (69, .int .i64 nW), (68, .slice aW nW cW), (67, .int .i64 ((pre.length : Nat) : Int)), (66, .bool false), (65, .bool false), (64, .string (strOfNums x)), (63, .slice a2 n2 c2), (62, .string (strOfNums x)), (61, .slice a4 n4 c4), (60, .pointer (some ⟨gE, oE + pre.length * 2 + 1, none⟩)), (59, .pointer (some ⟨gE, oE + pre.length * 2, none⟩)), (58, .int .i64 ((pre.length : Nat) : Int)), (57, .slice (some ⟨gE, oE, none⟩) nL cL), (56, .bool false), (55, .bool false), (54, .bool false), (53, .string (strOfNums k)), (52, .slice a1 n1 c1), (51, .string (strOfNums k)), (50, .slice a3 n3 c3), (49, .pointer (some ⟨gE, oE + pre.length * 2, none⟩)), (48, .pointer (some ⟨gE, oE + pre.length * 2, none⟩)), (47, .int .i64 ((pre.length : Nat) : Int)), (46, .slice (some ⟨gE, oE, none⟩) nL cL), (45, .bool false), (44, .bool false), (43, .int .i64 nL), (42, .slice (some ⟨gE, oE, none⟩) nL cL), (41, .int .i64 ((pre.length : Nat) : Int)), (3, .pointer (some ⟨gW, 0, none⟩)), (4, .pointer (some ⟨gR, 0, none⟩)), (5, .pointer (some ⟨gT, 0, none⟩)), (7, .pointer (some ⟨gL, 0, none⟩)), (10, .pointer (some ⟨gI, 0, none⟩)), (11, .slice a1 n1 c1), (12, .slice a2 n2 c2)] _
      refine cw_cond_t (fun _ => by kernel_rfl) ?_
      obtain ⟨y, hy⟩ : ∃ y, xsW[pre.length]? = some y := ⟨_, List.getElem?_eq_getElem (by rw [hOW.len]; exact hwi)⟩
      have hym : y ∈ xsW := List.mem_of_getElem? hy
      obtain ⟨gS, oS, ea, hrow⟩ := hOW.row pre.length y hy
      subst ea
      have hBv : Bl w W.drew := Below.trans hB ⟨hQ.os, hQ.tape, hQ.output, hQ.size, fun q hq => hQ.block q (Nat.lt_of_lt_of_le hq (Below.size hB)) (by omega) (by omega)⟩
      have hS7 : S17 gT gW gI g gS oS pre.length nW cW y.cells.toList W.drew := ⟨by rw [cell_of_row _ _ _ _ _ _ hTb]; rfl, by rw [cell_of_row _ _ _ _ _ _ hW]; rfl, by rw [cell_of_row _ _ _ _ _ _ hI]; rfl, rng_go hrow hBv⟩
      have hgS : gS ≠ g := fun e => by have h7 := (rng_go hrow hBv) 0 (.int .i64 y.z) rfl; subst e; exact hTr.noint _ _ _ h7
      refine cw_drawR (fun v => S17 gT gW gI g gS oS pre.length nW cW y.cells.toList v) (by kernel_rfl) (by kernel_rfl) (fun ⟨_, _, h⟩ => h) (hS7.drew) ?_
      replace hQ := hQ.drew
      replace hP := hP.drew
      replace hTr := hTr.drew
      replace hLp := hLp.drew
      replace hW := hW.drew
      replace hR := hR.drew
      replace hTb := hTb.drew
      replace hL := hL.drew
      replace hI := hI.drew
      replace hBv := hBv.drew
      refine dt 0 71 (.pointer (some ⟨g, 0, none⟩)) (fun v hv _ => ol_cell 23 _ _ _ _ rfl (by kernel_rfl) hv.ct Tryz.underlying23 rfl) hS7.drew ?_
      refine dt 1 72 (.slice (some ⟨gS, oS, none⟩) nW cW) (fun v hv _ => ol_cell 22 _ _ _ _ rfl (by kernel_rfl) hv.cw Tryz.underlying22 rfl) hS7.drew ?_
      refine dt 2 73 (.int .i64 ((pre.length : Nat) : Int)) (fun v hv _ => ol_cell 3 _ _ _ _ rfl (by kernel_rfl) hv.ci Tryz.underlying3 rfl) hS7.drew ?_
      refine dt 3 74 (.pointer (some ⟨gS, oS + pre.length * 3, none⟩)) (fun v hv _ => ol_index 22 _ _ gS oS pre.length nW cW 3 29 rfl (by kernel_rfl) (by kernel_rfl) hwi Tryz.underlying22 (by kernel_rfl)) hS7.drew ?_
      refine dt 4 75 (.agg #[.int .i64 y.z, .slice y.ka y.kn y.kc, .slice y.va y.vn y.vc]) (fun v hv _ => ol_mid 29 _ gS (oS + pre.length * 3) y.cells.toList _ rfl (by kernel_rfl) hv.rg Tryz.underlying29 rfl (by kernel_rfl)) hS7.drew ?_
      refine dw_ready [5] (by kernel_rfl) (by simp) ?_
      refine ar_call 5 76 5 #[.pointer (some ⟨g, 0, none⟩), .slice none 0 0, .agg #[.int .i64 y.z, .slice y.ka y.kn y.kc, .slice y.va y.vn y.vc]] rfl (fun _ => by kernel_rfl) (fun _ => by kernel_rfl) (R := fun u w' => (∃ a' n' c' vs' b, u = .tuple #[.slice a' n' c', .bool b] ∧ PAt (fun b => KB gL gI b ∨ (W.drew.drew).heap.size ≤ b) w' a' n' c' vs' (chL [] y) ∧ (Rel t' [] → b = true)) ∧ Tri (fun b => KB gL gI b ∨ (W.drew.drew).heap.size ≤ b) w' g (chT t' y) ∧ Touch g (W.drew.drew) w') (changes_any hTr (PAt.empty _ _) ((hOW.k y hym).an.go hBv).ag ((hOW.x y hym).an.go hBv).ag (by omega) (hsmW y hym).1 (hsmW y hym).2 (fun j k x h => by simp at h)) (fun u w' h => hS7.drew.touch h.2.2 (by omega) (by omega) (by omega) hgS) ?_ ar_nil
      rintro _ u9 ⟨⟨aZ, nZ, cZ, vsZ, bZ, rfl, _, _⟩, hTn, hto⟩
      have hlL3 := lt_of_get hL
      have hlI3 := lt_of_get hI
      clear hBv
      replace hP := hP.touch hto hTr
      replace hLp := hLp.touch hto hlpg
      replace hW := hW.touch hto (by omega)
      replace hR := hR.touch hto (by omega)
      replace hTb := hTb.touch hto (by omega)
      replace hL := hL.touch hto (by omega)
      replace hI := hI.touch hto (by omega)
      replace hQ := hQ.touch hto (.inl rfl)
      replace hTr := hTn.mono (K' := KB gL gI) (fun b hb => by rcases hb with h | h; exact h; exact ⟨by omega, by omega⟩)
      refine dw_done (by kernel_rfl) ?_
      refine nw_then ?_
      refine cw_seq ?_
      refine cw_seq ?_
      refine cw_region ?_
      refine rv 77 (.pointer (some ⟨g, 0, none⟩)) (fun _ => ol_cell 23 _ ⟨gT, 0, none⟩ _ _ rfl (by kernel_rfl) (by rw [cell_of_row _ _ _ _ _ _ hTb]; rfl) Tryz.underlying23 rfl) ?_
      refine rw_call 78 6 #[.pointer (some ⟨g, 0, none⟩)] (fun _ => by kernel_rfl) (fun _ => by kernel_rfl) (R := fun u w' => (∃ gB, u = .func (.func 15) #[] #[.pointer (some ⟨gB, 0, none⟩)] ∧ Rw gB w' #[.pointer (some ⟨g, 0, none⟩)] 23 ∧ (u9).heap.size ≤ gB) ∧ Bl (u9) w') (all_any (g := g)) ?_
      rintro _ u10 ⟨⟨gB2, rfl, hgB2, hzgB2⟩, hb11⟩
      replace hQ := hQ.go hb11
      replace hP := hP.go hb11
      replace hTr := hTr.go hb11
      replace hLp := hLp.go hb11
      replace hW := hW.go hb11
      replace hR := hR.go hb11
      replace hTb := hTb.go hb11
      replace hL := hL.go hb11
      replace hI := hI.go hb11
      refine rw_nil ?_
      refine nw_then ?_
      refine cw_block ?_
      obtain ⟨⟨vU, hrU, htU⟩, hokU⟩ := id hTr
      refine cw_rangeX hLp 15 #[.pointer (some ⟨gB2, 0, none⟩)] (fun _ => by kernel_rfl) (by decide) (by decide) (by decide) (fun args w => by kernel_rfl) rfl (all_stops (U := fun _ => False) (fun _ h => h.elim) hgB2 hrU htU hokU (fun _ _ h => h) _) ?_ ?_
      · intro Wz hbz
        replace hQ := hQ.go hbz
        replace hP := hP.go hbz
        replace hTr := hTr.go hbz
        replace hLp := hLp.go hbz
        replace hW := hW.go hbz
        replace hR := hR.go hbz
        replace hTb := hTb.go hbz
        replace hL := hL.go hbz
        replace hI := hI.go hbz
        replace hgB2 := hgB2.go hbz
        refine nw_block ?_
        refine nw_then ?_
        refine cw_region ?_
        refine rv 81 (.int .i64 ((pre.length : Nat) : Int)) (fun _ => ol_cell 3 _ ⟨gI, 0, none⟩ _ _ rfl (by kernel_rfl) (by rw [cell_of_row _ _ _ _ _ _ hI]; rfl) Tryz.underlying3 rfl) ?_
        refine rv 82 (.int .i64 ((pre.length + 1 : Nat) : Int)) (fun _ => ol_conv (v := .int .i64 (IntKind.i64.wrap (((pre.length : Nat) : Int) + 1))) (by kernel_rfl) (congrArg (Value.int .i64) (by rw [wrap64 (by omega) (by omega)]; omega))) ?_
        refine rw_set1 gI 0 (.int .i64 ((pre.length + 1 : Nat) : Int)) (fun _ => by kernel_rfl) (fun _ => ol_setC 3 _ _ gI 0 _ 3 _ hI rfl (by kernel_rfl) (by kernel_rfl) (by show 0 < 1; omega) rfl rfl (by kernel_rfl)) ?_
        intro w12 hst
        replace hQ := hQ.touch hst.touch (.inr rfl)
        replace hP := hP.tou hst.touch (by simp [KB])
        replace hTr := hTr.tou hst.touch (by simp [KB]) (by omega)
        replace hLp := hLp.touch hst.touch hlpi
        replace hW := hW.apart hst (by omega)
        replace hR := hR.apart hst (by omega)
        replace hTb := hTb.apart hst (by omega)
        replace hL := hL.apart hst (by omega)
        replace hI : Rw gI w12 #[.int .i64 ((pre.length + 1 : Nat) : Int)] 3 := hI.set hst rfl
        clear hgB2
        refine rw_nil ?_
        refine nw_block ?_
        refine nw_own ⟨hQ.size, fun q o hq ho hc => (hQ.block q (lt_of_get ho) (fun e => by subst e; rw [show Rw _ _ _ _ from (hTr0.ex.choose_spec.1)] at ho; cases ho; cases hc) (fun e => by subst e; rw [show Rw _ _ _ _ from hI0] at ho; cases ho; cases hc)).trans ho⟩ ⟨hQ.size, fun q cs T fr _ hU hh => (hQ.block q (lt_of_get hh) (fun e => hU (.inl e)) (fun e => hU (.inr e))).trans hh⟩ ⟨?_, hW, hR, hTb, hL, ?_, hP, _, hTr⟩
        · exact Below.trans hB ⟨hQ.os, hQ.tape, hQ.output, hQ.size, fun q hq => hQ.block q (Nat.lt_of_lt_of_le hq (Below.size hB)) (by omega) (by omega)⟩
        · rw [List.length_append, List.length_singleton]; exact hI
      · intro Wz hbz
        replace hQ := hQ.go hbz
        replace hP := hP.go hbz
        replace hTr := hTr.go hbz
        replace hLp := hLp.go hbz
        replace hW := hW.go hbz
        replace hR := hR.go hbz
        replace hTb := hTb.go hbz
        replace hL := hL.go hbz
        replace hI := hI.go hbz
        replace hgB2 := hgB2.go hbz
        refine nw_exit_here ?_
        refine nw_then ?_
        refine cw_region ?_
        refine rv 81 (.int .i64 ((pre.length : Nat) : Int)) (fun _ => ol_cell 3 _ ⟨gI, 0, none⟩ _ _ rfl (by kernel_rfl) (by rw [cell_of_row _ _ _ _ _ _ hI]; rfl) Tryz.underlying3 rfl) ?_
        refine rv 82 (.int .i64 ((pre.length + 1 : Nat) : Int)) (fun _ => ol_conv (v := .int .i64 (IntKind.i64.wrap (((pre.length : Nat) : Int) + 1))) (by kernel_rfl) (congrArg (Value.int .i64) (by rw [wrap64 (by omega) (by omega)]; omega))) ?_
        refine rw_set1 gI 0 (.int .i64 ((pre.length + 1 : Nat) : Int)) (fun _ => by kernel_rfl) (fun _ => ol_setC 3 _ _ gI 0 _ 3 _ hI rfl (by kernel_rfl) (by kernel_rfl) (by show 0 < 1; omega) rfl rfl (by kernel_rfl)) ?_
        intro w13 hst
        replace hQ := hQ.touch hst.touch (.inr rfl)
        replace hP := hP.tou hst.touch (by simp [KB])
        replace hTr := hTr.tou hst.touch (by simp [KB]) (by omega)
        replace hLp := hLp.touch hst.touch hlpi
        replace hW := hW.apart hst (by omega)
        replace hR := hR.apart hst (by omega)
        replace hTb := hTb.apart hst (by omega)
        replace hL := hL.apart hst (by omega)
        replace hI : Rw gI w13 #[.int .i64 ((pre.length + 1 : Nat) : Int)] 3 := hI.set hst rfl
        clear hgB2
        refine rw_nil ?_
        refine nw_block ?_
        refine nw_own ⟨hQ.size, fun q o hq ho hc => (hQ.block q (lt_of_get ho) (fun e => by subst e; rw [show Rw _ _ _ _ from (hTr0.ex.choose_spec.1)] at ho; cases ho; cases hc) (fun e => by subst e; rw [show Rw _ _ _ _ from hI0] at ho; cases ho; cases hc)).trans ho⟩ ⟨hQ.size, fun q cs T fr _ hU hh => (hQ.block q (lt_of_get hh) (fun e => hU (.inl e)) (fun e => hU (.inr e))).trans hh⟩ ⟨?_, hW, hR, hTb, hL, ?_, hP, _, hTr⟩
        · exact Below.trans hB ⟨hQ.os, hQ.tape, hQ.output, hQ.size, fun q hq => hQ.block q (Nat.lt_of_lt_of_le hq (Below.size hB)) (by omega) (by omega)⟩
        · rw [List.length_append, List.length_singleton]; exact hI
    · skip
      rw [show decide (((pre.length : Nat) : Int) < (nW : Int)) = false from decide_eq_false (by omega)]
      show CW _ _ _ _ _ _ _ [(70, .bool false), (69, .int .i64 nW), (68, .slice aW nW cW), (67, .int .i64 ((pre.length : Nat) : Int)), (66, .bool false), (65, .bool false), (64, .string (strOfNums x)), (63, .slice a2 n2 c2), (62, .string (strOfNums x)), (61, .slice a4 n4 c4), (60, .pointer (some ⟨gE, oE + pre.length * 2 + 1, none⟩)), (59, .pointer (some ⟨gE, oE + pre.length * 2, none⟩)), (58, .int .i64 ((pre.length : Nat) : Int)), (57, .slice (some ⟨gE, oE, none⟩) nL cL), (56, .bool false), (55, .bool false), (54, .bool false), (53, .string (strOfNums k)), (52, .slice a1 n1 c1), (51, .string (strOfNums k)), (50, .slice a3 n3 c3), (49, .pointer (some ⟨gE, oE + pre.length * 2, none⟩)), (48, .pointer (some ⟨gE, oE + pre.length * 2, none⟩)), (47, .int .i64 ((pre.length : Nat) : Int)), (46, .slice (some ⟨gE, oE, none⟩) nL cL), (45, .bool false), (44, .bool false), (43, .int .i64 nL), (42, .slice (some ⟨gE, oE, none⟩) nL cL), (41, .int .i64 ((pre.length : Nat) : Int)), (3, .pointer (some ⟨gW, 0, none⟩)), (4, .pointer (some ⟨gR, 0, none⟩)), (5, .pointer (some ⟨gT, 0, none⟩)), (7, .pointer (some ⟨gL, 0, none⟩)), (10, .pointer (some ⟨gI, 0, none⟩)), (11, .slice a1 n1 c1), (12, .slice a2 n2 c2)] _
      refine cw_cond_f (fun _ => by kernel_rfl) ?_
      refine cw_skip ?_
      refine nw_then ?_
      refine cw_seq ?_
      refine cw_seq ?_
      refine cw_region ?_
      refine rv 77 (.pointer (some ⟨g, 0, none⟩)) (fun _ => ol_cell 23 _ ⟨gT, 0, none⟩ _ _ rfl (by kernel_rfl) (by rw [cell_of_row _ _ _ _ _ _ hTb]; rfl) Tryz.underlying23 rfl) ?_
      refine rw_call 78 6 #[.pointer (some ⟨g, 0, none⟩)] (fun _ => by kernel_rfl) (fun _ => by kernel_rfl) (R := fun u w' => (∃ gB, u = .func (.func 15) #[] #[.pointer (some ⟨gB, 0, none⟩)] ∧ Rw gB w' #[.pointer (some ⟨g, 0, none⟩)] 23 ∧ (W.drew).heap.size ≤ gB) ∧ Bl (W.drew) w') (all_any (g := g)) ?_
      rintro _ u14 ⟨⟨gB2, rfl, hgB2, hzgB2⟩, hb15⟩
      replace hQ := hQ.go hb15
      replace hP := hP.go hb15
      replace hTr := hTr.go hb15
      replace hLp := hLp.go hb15
      replace hW := hW.go hb15
      replace hR := hR.go hb15
      replace hTb := hTb.go hb15
      replace hL := hL.go hb15
      replace hI := hI.go hb15
      refine rw_nil ?_
      refine nw_then ?_
      refine cw_block ?_
      obtain ⟨⟨vU, hrU, htU⟩, hokU⟩ := id hTr
      refine cw_rangeX hLp 15 #[.pointer (some ⟨gB2, 0, none⟩)] (fun _ => by kernel_rfl) (by decide) (by decide) (by decide) (fun args w => by kernel_rfl) rfl (all_stops (U := fun _ => False) (fun _ h => h.elim) hgB2 hrU htU hokU (fun _ _ h => h) _) ?_ ?_
      · intro Wz hbz
        replace hQ := hQ.go hbz
        replace hP := hP.go hbz
        replace hTr := hTr.go hbz
        replace hLp := hLp.go hbz
        replace hW := hW.go hbz
        replace hR := hR.go hbz
        replace hTb := hTb.go hbz
        replace hL := hL.go hbz
        replace hI := hI.go hbz
        replace hgB2 := hgB2.go hbz
        refine nw_block ?_
        refine nw_then ?_
        refine cw_region ?_
        refine rv 81 (.int .i64 ((pre.length : Nat) : Int)) (fun _ => ol_cell 3 _ ⟨gI, 0, none⟩ _ _ rfl (by kernel_rfl) (by rw [cell_of_row _ _ _ _ _ _ hI]; rfl) Tryz.underlying3 rfl) ?_
        refine rv 82 (.int .i64 ((pre.length + 1 : Nat) : Int)) (fun _ => ol_conv (v := .int .i64 (IntKind.i64.wrap (((pre.length : Nat) : Int) + 1))) (by kernel_rfl) (congrArg (Value.int .i64) (by rw [wrap64 (by omega) (by omega)]; omega))) ?_
        refine rw_set1 gI 0 (.int .i64 ((pre.length + 1 : Nat) : Int)) (fun _ => by kernel_rfl) (fun _ => ol_setC 3 _ _ gI 0 _ 3 _ hI rfl (by kernel_rfl) (by kernel_rfl) (by show 0 < 1; omega) rfl rfl (by kernel_rfl)) ?_
        intro w16 hst
        replace hQ := hQ.touch hst.touch (.inr rfl)
        replace hP := hP.tou hst.touch (by simp [KB])
        replace hTr := hTr.tou hst.touch (by simp [KB]) (by omega)
        replace hLp := hLp.touch hst.touch hlpi
        replace hW := hW.apart hst (by omega)
        replace hR := hR.apart hst (by omega)
        replace hTb := hTb.apart hst (by omega)
        replace hL := hL.apart hst (by omega)
        replace hI : Rw gI w16 #[.int .i64 ((pre.length + 1 : Nat) : Int)] 3 := hI.set hst rfl
        clear hgB2
        refine rw_nil ?_
        refine nw_block ?_
        refine nw_own ⟨hQ.size, fun q o hq ho hc => (hQ.block q (lt_of_get ho) (fun e => by subst e; rw [show Rw _ _ _ _ from (hTr0.ex.choose_spec.1)] at ho; cases ho; cases hc) (fun e => by subst e; rw [show Rw _ _ _ _ from hI0] at ho; cases ho; cases hc)).trans ho⟩ ⟨hQ.size, fun q cs T fr _ hU hh => (hQ.block q (lt_of_get hh) (fun e => hU (.inl e)) (fun e => hU (.inr e))).trans hh⟩ ⟨?_, hW, hR, hTb, hL, ?_, hP, _, hTr⟩
        · exact Below.trans hB ⟨hQ.os, hQ.tape, hQ.output, hQ.size, fun q hq => hQ.block q (Nat.lt_of_lt_of_le hq (Below.size hB)) (by omega) (by omega)⟩
        · rw [List.length_append, List.length_singleton]; exact hI
      · intro Wz hbz
        replace hQ := hQ.go hbz
        replace hP := hP.go hbz
        replace hTr := hTr.go hbz
        replace hLp := hLp.go hbz
        replace hW := hW.go hbz
        replace hR := hR.go hbz
        replace hTb := hTb.go hbz
        replace hL := hL.go hbz
        replace hI := hI.go hbz
        replace hgB2 := hgB2.go hbz
        refine nw_exit_here ?_
        refine nw_then ?_
        refine cw_region ?_
        refine rv 81 (.int .i64 ((pre.length : Nat) : Int)) (fun _ => ol_cell 3 _ ⟨gI, 0, none⟩ _ _ rfl (by kernel_rfl) (by rw [cell_of_row _ _ _ _ _ _ hI]; rfl) Tryz.underlying3 rfl) ?_
        refine rv 82 (.int .i64 ((pre.length + 1 : Nat) : Int)) (fun _ => ol_conv (v := .int .i64 (IntKind.i64.wrap (((pre.length : Nat) : Int) + 1))) (by kernel_rfl) (congrArg (Value.int .i64) (by rw [wrap64 (by omega) (by omega)]; omega))) ?_
        refine rw_set1 gI 0 (.int .i64 ((pre.length + 1 : Nat) : Int)) (fun _ => by kernel_rfl) (fun _ => ol_setC 3 _ _ gI 0 _ 3 _ hI rfl (by kernel_rfl) (by kernel_rfl) (by show 0 < 1; omega) rfl rfl (by kernel_rfl)) ?_
        intro w17 hst
        replace hQ := hQ.touch hst.touch (.inr rfl)
        replace hP := hP.tou hst.touch (by simp [KB])
        replace hTr := hTr.tou hst.touch (by simp [KB]) (by omega)
        replace hLp := hLp.touch hst.touch hlpi
        replace hW := hW.apart hst (by omega)
        replace hR := hR.apart hst (by omega)
        replace hTb := hTb.apart hst (by omega)
        replace hL := hL.apart hst (by omega)
        replace hI : Rw gI w17 #[.int .i64 ((pre.length + 1 : Nat) : Int)] 3 := hI.set hst rfl
        clear hgB2
        refine rw_nil ?_
        refine nw_block ?_
        refine nw_own ⟨hQ.size, fun q o hq ho hc => (hQ.block q (lt_of_get ho) (fun e => by subst e; rw [show Rw _ _ _ _ from (hTr0.ex.choose_spec.1)] at ho; cases ho; cases hc) (fun e => by subst e; rw [show Rw _ _ _ _ from hI0] at ho; cases ho; cases hc)).trans ho⟩ ⟨hQ.size, fun q cs T fr _ hU hh => (hQ.block q (lt_of_get hh) (fun e => hU (.inl e)) (fun e => hU (.inr e))).trans hh⟩ ⟨?_, hW, hR, hTb, hL, ?_, hP, _, hTr⟩
        · exact Below.trans hB ⟨hQ.os, hQ.tape, hQ.output, hQ.size, fun q hq => hQ.block q (Nat.lt_of_lt_of_le hq (Below.size hB)) (by omega) (by omega)⟩
        · rw [List.length_append, List.length_singleton]; exact hI
  intro D W hD hIv hdd
  obtain ⟨hB, hW, hR, hTb, hL, hI, hP, t', hTr⟩ := hIv
  rw [hP.ll] at hI
  have hdR : D ≠ gR := by intro e; rw [e] at hdd; unfold Rw at hR; rw [hdd] at hR; cases hR
  refine nw_block ?_
  refine nw_then ?_
  refine cw_seq ?_
  refine cw_region ?_
  refine rv 83 (.int .i64 ((nL : Nat) : Int)) (fun _ => ol_cell 3 _ ⟨gI, 0, none⟩ _ _ rfl (by kernel_rfl) (by rw [cell_of_row _ _ _ _ _ _ hI]; rfl) Tryz.underlying3 rfl) ?_
  refine rv 84 (.slice aL nL cL) (fun _ => ol_cell 26 _ ⟨gL, 0, none⟩ _ _ rfl (by kernel_rfl) (by rw [cell_of_row _ _ _ _ _ _ hL]; rfl) Tryz.underlying26 rfl) ?_
  refine rp 85 (.int .i64 nL) ?_
  refine rv 86 (.bool true) (fun _ => ol_conv (v := .bool (((nL : Nat) : Int) == (nL : Int))) (by kernel_rfl) (congrArg Value.bool (beq_self_eq_true _))) ?_
  refine rw_set1 gR 0 (.bool true) (fun _ => by kernel_rfl) (fun _ => ol_setC 4 _ _ gR 0 _ 4 _ hR rfl (by kernel_rfl) (by kernel_rfl) (by show 0 < 1; omega) rfl rfl (by kernel_rfl)) ?_
  intro w18 hst
  replace hB : Bl w w18 := hst.touch.below hB (by omega) hB.size
  replace hW := hW.apart hst (by omega)
  replace hR : Rw gR w18 #[.bool true] 4 := hR.set hst rfl
  replace hTb := hTb.apart hst (by omega)
  replace hL := hL.apart hst (by omega)
  replace hI := hI.apart hst (by omega)
  replace hdd := (hst.touch.block D (lt_of_get hdd) hdR).trans hdd
  refine rw_nil ?_
  refine nw_then ?_
  refine cw_ret ?_
  exact nw_ret_marks hdd (.bool true) (fun _ => results_b Tryz.results3 _ gR true (by kernel_rfl) ((World.putObj_heap_other (fun e => hdR e.symm)).trans hR)) ⟨rfl, Below.grown hB (grownBy_putObj' _ _ _) hB.size (fun k e => by cases e; omega)⟩
end Go.Proofs.YtalhnnjpjaeakabGreat
/- How a slice of bytes that is handed in reads as data: nil, or a row of bytes that takes no more than the form's own reach. -/
namespace Go.Proofs.YtalhnnjpjaeakabGreat
open Go.ChangeShapes Go.WideShapes Go.ChangeAt Go.RowKit
open Go.ChangeMaps (open_string shut_string)
set_option linter.unusedVariables false
set_option maxRecDepth 100000
theorem own : ownKnob Tryz.prog.godebug = none := by kernel_rfl
theorem laidOut : laidOutB Tryz.prog = true := by kernel_rfl
theorem cells5 : Tryz.prog.cellsOf 5 = 1 := by kernel_rfl
theorem bytes5 : Tryz.prog.bytesOf 5 = 1 := by kernel_rfl
end Go.Proofs.YtalhnnjpjaeakabGreat
/- How a list of calls on a trie that is handed in reads as data, how many they are and how long their keys and values. -/
namespace Go.Proofs.YtalhnnjpjaeakabGreat
open Go.ChangeShapes Go.WideShapes Go.ChangeAt Go.RowKit
set_option linter.unusedVariables false
set_option maxRecDepth 100000
theorem cellsOP : Tryz.prog.cellsOf 29 = 3 := by kernel_rfl
theorem cells3 : Tryz.prog.cellsOf 3 = 1 := by kernel_rfl
theorem cellsB : Tryz.prog.cellsOf 27 = 1 := by kernel_rfl
theorem bytesOP : Tryz.prog.bytesOf 29 = 56 := by kernel_rfl
section
variable {H : Type} {enc : TypeId × Value → H} {w : World} {held : Bool}
theorem open_agF {fuel : Nat} {cs : List Value} {x : DataW H × List MemPlace} (hf : DataW.trod enc Tryz.prog w 0 (fun _ => true) held fuel 27 cs = some x)
    (hsz : ∀ n ∈ x.1.weights Tryz.prog 27, n ≤ reachBytes) : ∃ a len cap bs, cs = [.slice a len cap] ∧ Ag w a len cap bs ∧ len ≤ 140737488351232 := by
  rcases open_ints Tryz.underlying27 Tryz.underlying5 cells5 hf with ⟨hcs, _⟩ | ⟨p, len, cap, zs, hcs, _, hl, hm, hz, hx, hcell, hwz⟩
  · exact ⟨none, 0, 0, [], hcs, ⟨.inl ⟨rfl, rfl⟩, fun _ => ⟨rfl, rfl⟩, rfl, fun x hx => by cases hx⟩, by omega⟩
  · have hz2 : zs.length = cap := by simpa using hz
    have hsz2 := hsz ((zs.take len).length + (zs.drop len).length) (by
      rw [hx]
      simp only [DataW.weights, Tryz.underlying27, lits, List.length_map, bytes5, Nat.mul_one]
      exact List.mem_cons_self ..)
    simp only [List.length_take, List.length_drop, reachBytes] at hsz2
    have hlen : (zs.take len).length = len := by rw [List.length_take]; omega
    have hbd : ∀ n ∈ zs.take len, 0 ≤ n ∧ n < 256 := fun n hn => by
      have := bounds_u8 (hwz n (List.mem_of_mem_take hn))
      omega
    refine ⟨some p, len, cap, zs.take len, hcs, ⟨?_, (fun h => by cases h), hlen, hbd⟩, by omega⟩
    by_cases h0 : len = 0
    · subst h0
      exact .inl ⟨rfl, by simp⟩
    · obtain ⟨b, off, spot⟩ := p
      have hc := hcell 0 (by omega)
      have hspot : spot = none := by simpa [Addr.add] using World.cell?_spot hc
      subst hspot
      refine .inr ⟨b, off, rfl, hlen, by omega, hl, hm, fun j hj => ?_⟩
      rw [hlen] at hj
      have := hcell j (by omega)
      rw [addr_add] at this
      rw [this, List.getD, List.getD, List.getElem?_take_of_lt hj]
theorem weights_all {e : TypeId} : ∀ {ds : List (DataW H)} {d : DataW H}, d ∈ ds → ∀ n ∈ d.weights Tryz.prog e, n ∈ DataW.weightsAll Tryz.prog e ds
  | [], d, h, _, _ => by cases h
  | d0 :: r, d, h, n, hn => by
    rw [DataW.weightsAll, List.mem_append]
    rcases List.mem_cons.1 h with rfl | h
    · exact .inl hn
    · exact .inr (weights_all h n hn)
theorem split111 {cs : List Value} (h : cs.length = 3) : cs = (cs.drop 0).take 1 ++ ((cs.drop 1).take 1 ++ (cs.drop 2).take 1) := by
  match cs, h with
  | [a, b, c], _ => rfl
theorem open_opF {fuel : Nat} {cs : List Value} {x : DataW H × List MemPlace} (hf : DataW.trod enc Tryz.prog w 0 (fun _ => true) held fuel 29 cs = some x)
    (hsz : ∀ n ∈ x.1.weights Tryz.prog 29, n ≤ reachBytes) : ∃ y : Opx, cs = y.cells.toList ∧ Ag w y.ka y.kn y.kc y.k ∧ Ag w y.va y.vn y.vc y.x ∧ y.kn ≤ 140737488355328 ∧ y.vn ≤ 140737488355328 := by
  obtain ⟨xs, n, hfu, hx, hcl, hxl, hel⟩ := DataW.trod_struct Tryz.underlying29 hf
  rw [cellsOP] at hcl
  have e0 := hel 0 _ rfl
  have e1 := hel 1 _ rfl
  have e2 := hel 2 _ rfl
  have hxl3 : xs.length = 3 := hxl
  obtain ⟨x0, x1, x2, rfl⟩ : ∃ x0 x1 x2, xs = [x0, x1, x2] := by
    match xs, hxl3 with
    | [a, b, c], _ => exact ⟨a, b, c, rfl⟩
  subst hx
  have f0 : DataW.trod enc Tryz.prog w 0 (fun _ => true) held n 3 ((cs.drop 0).take (Tryz.prog.cellsOf 3)) = some x0 := e0
  have f1 : DataW.trod enc Tryz.prog w 0 (fun _ => true) held n 27 ((cs.drop 1).take (Tryz.prog.cellsOf 27)) = some x1 := e1
  have f2 : DataW.trod enc Tryz.prog w 0 (fun _ => true) held n 27 ((cs.drop 2).take (Tryz.prog.cellsOf 27)) = some x2 := e2
  rw [cells3] at f0
  rw [cellsB] at f1
  rw [cellsB] at f2
  obtain ⟨k, hk, _, _⟩ := DataW.trod_int Tryz.underlying3 f0
  obtain ⟨a1, m1, c1, b1, hb1, hag1, hl1⟩ := open_agF f1 (fun k hk => hsz k (by
    show k ∈ (DataW.agg [x0.1, x1.1, x2.1]).weights Tryz.prog 29
    simp only [DataW.weights, Tryz.underlying29]
    simp only [List.map, DataW.weightsEach, List.mem_append]
    exact .inr (.inl hk)))
  obtain ⟨a2, m2, c2, b2, hb2, hag2, hl2⟩ := open_agF f2 (fun k hk => hsz k (by
    show k ∈ (DataW.agg [x0.1, x1.1, x2.1]).weights Tryz.prog 29
    simp only [DataW.weights, Tryz.underlying29]
    simp only [List.map, DataW.weightsEach, List.mem_append]
    exact .inr (.inr (.inl hk))))
  refine ⟨⟨k, a1, m1, c1, a2, m2, c2, b1, b2⟩, ?_, hag1, hag2, by show m1 ≤ _; omega, by show m2 ≤ _; omega⟩
  rw [split111 (cs := cs) hcl, hk, hb1, hb2]
  rfl
theorem open_opsF {fuel : Nat} {cs : List Value} {x : DataW H × List MemPlace} (hf : DataW.trod enc Tryz.prog w 0 (fun _ => true) held fuel 22 cs = some x)
    (hsz : ∀ n ∈ x.1.weights Tryz.prog 22, n ≤ reachBytes) : ∃ a m c xs, cs = [.slice a m c] ∧ OAt w a m xs ∧ m ≤ 2600000000000 ∧ ∀ y ∈ xs, y.kn ≤ 140737488355328 ∧ y.vn ≤ 140737488355328 := by
  rcases DataW.trod_slice Tryz.underlying22 hf with ⟨hcs, _⟩ | ⟨p, len, cap, elems, rest, n, hfu, hcs, hx, _, hl, hm, hlen, hel, _, _⟩
  · exact ⟨none, 0, 0, [], hcs, ⟨rfl, fun j r hr => by simp at hr, (fun x hx => by cases hx), fun x hx => by cases hx⟩, by omega, fun x hx => by cases hx⟩
  · subst hx
    have hw : (DataW.slice (elems.map (·.1)) (rest.map (·.1))).weights Tryz.prog 22 = ((elems.map (·.1)).length + (rest.map (·.1)).length) * Tryz.prog.bytesOf 29 :: (DataW.weightsAll Tryz.prog 29 (elems.map (·.1)) ++ DataW.weightsAll Tryz.prog 29 (rest.map (·.1))) := by
      simp only [DataW.weights, Tryz.underlying22]
    have hszw : ∀ n ∈ (DataW.slice (elems.map (·.1)) (rest.map (·.1))).weights Tryz.prog 22, n ≤ reachBytes := hsz
    rw [hw] at hszw
    clear hsz
    have hsz1 := hszw _ (List.mem_cons_self ..)
    rw [bytesOP, List.length_map, List.length_map, hlen] at hsz1
    unfold reachBytes at hsz1
    have hthing : ∀ i, i < len → ∃ y : Opx, (∀ k, k < 3 → w.cell? ((p.add (i * 3)).add k) = y.cells.toList[k]?) ∧ Ag w y.ka y.kn y.kc y.k ∧ Ag w y.va y.vn y.vc y.x ∧ y.kn ≤ 140737488355328 ∧ y.vn ≤ 140737488355328 := by
      intro i hi
      have he := hel i hi
      rw [cellsOP, List.getElem?_eq_getElem (by omega), Option.bind_eq_some_iff] at he
      obtain ⟨cs', hc1, hc2⟩ := he
      obtain ⟨_, hc3, hc4⟩ := World.cells?_some hc1
      obtain ⟨y, hcs', hr⟩ := open_opF hc2 (fun k hk => hszw k (List.mem_cons_of_mem _ (List.mem_append_left _ (weights_all (List.mem_map_of_mem (List.getElem_mem _)) k hk))))
      refine ⟨y, ?_, hr⟩
      rw [hcs'] at hc4
      exact hc4
    have hspot : 0 < len → p.spot = none := by
      intro h
      obtain ⟨y, hc, hr⟩ := hthing 0 h
      have c0 := hc 0 (by omega)
      rw [show y.cells.toList[0]? = some (.int .i64 y.z) from rfl] at c0
      simpa [Addr.add] using World.cell?_spot c0
    have hall : ∀ d k, k + d = len → ∃ ks : List Opx, ks.length = d ∧ (∀ j r, ks[j]? = some r → ∃ g off, (some p : Option Addr) = some ⟨g, off, none⟩ ∧ w.rangeAt g (off + (k + j) * 3) r.cells.toList) ∧ ∀ y ∈ ks, Ag w y.ka y.kn y.kc y.k ∧ Ag w y.va y.vn y.vc y.x ∧ y.kn ≤ 140737488355328 ∧ y.vn ≤ 140737488355328 := by
      intro d
      induction d with
      | zero => intro k _; exact ⟨[], rfl, (fun j r hr => by simp at hr), fun x hx => by cases hx⟩
      | succ d ihd =>
        intro k hk
        obtain ⟨ks, h1, h2, h3⟩ := ihd (k + 1) (by omega)
        obtain ⟨y, hc, hr⟩ := hthing k (by omega)
        refine ⟨y :: ks, by rw [List.length_cons, h1], fun j s hs => ?_, fun x hx => ?_⟩
        · cases j with
          | zero =>
            simp at hs
            subst hs
            obtain ⟨g, off, spot⟩ := p
            have hsp : spot = none := hspot (by omega)
            subst hsp
            refine ⟨g, off, rfl, fun i u hu => ?_⟩
            have hi : i < 3 := (List.getElem?_eq_some_iff.1 hu).1
            have := hc i hi
            rw [addr_add, addr_add, hu] at this
            exact this
          | succ j =>
            obtain ⟨g, off, e, h3⟩ := h2 j s (by simpa using hs)
            rw [show k + 1 + j = k + (j + 1) from by omega] at h3
            exact ⟨g, off, e, h3⟩
        · rcases List.mem_cons.1 hx with rfl | hx
          · exact hr
          · exact h3 x hx
    obtain ⟨ks, h1, h2, h3⟩ := hall len 0 (by omega)
    refine ⟨some p, len, cap, ks, hcs, ⟨h1, fun j r hr => ?_, fun y hy => (h3 y hy).1, fun y hy => (h3 y hy).2.1⟩, by omega, fun y hy => (h3 y hy).2.2⟩
    obtain ⟨g, off, e, h3⟩ := h2 j r hr
    rw [Nat.zero_add] at h3
    exact ⟨g, off, e, h3⟩
end
theorem open_ops {H : Type} {enc : TypeId × Value → H} {w : World} {b0 : Nat} {r : Reach} {held : Bool} {v : Value} {d : DataW H} {p : List MemPlace}
    (hv : Value.okWide Tryz.prog w r b0 22 v) (h : DataW.Trod enc Tryz.prog w 0 (fun _ => true) held 22 v d p)
    (hsz : ∀ n ∈ d.weights Tryz.prog 22, n ≤ reachBytes) : ∃ a m c xs, v = .slice a m c ∧ OAt w a m xs ∧ m ≤ 2600000000000 ∧ ∀ y ∈ xs, y.kn ≤ 140737488355328 ∧ y.vn ≤ 140737488355328 := by
  obtain ⟨a, len, cap, rfl⟩ := okWide_slice Tryz.underlying22 hv
  obtain ⟨fuel, hf⟩ := h
  obtain ⟨a', m, c, xs, hcs, hx⟩ := open_opsF hf hsz
  simp [Value.cells] at hcs
  obtain ⟨rfl, rfl, rfl⟩ := hcs
  exact ⟨_, _, _, xs, rfl, hx⟩
theorem sized_at {H : Type} {ts : List TypeId} {ds : List (DataW H)} (h : (DataW.weightsEach Tryz.prog ts ds).all (· ≤ reachBytes) = true) {j : Nat} {t : TypeId} {d : DataW H} (ht : ts[j]? = some t) (hd : ds[j]? = some d) : ∀ n ∈ d.weights Tryz.prog t, n ≤ reachBytes := by
  intro n hn
  have := List.all_eq_true.1 h n (DataW.weights_mem_each ht hd n hn)
  simpa using this
end Go.Proofs.YtalhnnjpjaeakabGreat

/- What a writer writes: references; extensions. -/
import Derived.Test.YtdkpilgelgjieaaGreatG28
import Derived.Test.YtdkpilgelgjieaaGreatG00
namespace Go.Proofs.YtdkpilgelgjieaaGreat
open Go.RowKit
open Tr
set_option linter.unusedVariables false
set_option maxRecDepth 100000
theorem r_size {y : RV} (h : y.d.length = 32) : y.cells.toArray.size = 34 := by rw [List.size_toArray, RV.len h]
theorem r_ones (y : RV) : y.cells.toArray.all (·.oneCell') = true := all_oneCell_toArray (RV.one y)
theorem results_r {fn : Func} {p : Tmp} {f : Nat → Value} (h : fn.results = #[.cell p 60]) (w : World) (g : Nat) (y : RV) (hl : y.d.length = 32) (hp : f p = .pointer (some ⟨g, 0, none⟩)) (hg : Rw g w y.cells.toArray 60) : (resF f fn.results).run Tryz.prog w = .ok (.agg y.cells.toArray) w := by
  have := run_loadVar_row (P := Tryz.prog) w g 60 60 _ _ _ hg Tryz.underlying60 rfl (by rw [infoR, r_size hl])
  unfold resF
  rw [h]
  simp [hp, this, asAddr]
/-- A reference with its bytes in new blocks. -/
structure Rf (K : Nat → Prop) (w : World) (y : RV) (r : PR) : Prop where
  at' : RefAt K w y r
theorem Rf.go {K : Nat → Prop} {w w' : World} {y : RV} {r : PR} (h : Rf K w y r) (hb : Below w.heap.size w w') : Rf K w' y r := ⟨h.at'.go (Keep.below hb)⟩
theorem Rf.wg {X : Nat → Prop} {w w' : World} {gW : Nat} {vN vN' : Value} {y : RV} {r : PR} (h : Rf (KW gW vN X) w y r) (g : Wg w w' gW vN vN') : Rf (KW gW vN' X) w' y r := ⟨h.at'.go g.keep⟩
theorem Sk.put {K : Nat → Prop} {w w' : World} {a : Option Addr} {n c : Nat} {bs : List Int} {g : Nat} {cells : Array Value} (h : Sk K w a n c bs) (hp : Put w w' g cells) (hK : ∀ b, K b → b ≠ g) : Sk K w' a n c bs := by
  refine ⟨⟨?_, h.ag.nil, h.ag.l, h.ag.b⟩, h.k⟩
  rcases h.ag.i with h1 | ⟨gb, off, h1, h2, h3, h4, h5, h7⟩
  · exact .inl h1
  · exact .inr ⟨gb, off, h1, h2, h3, h4, h5, fun j hj => (World.cell?_of_block (show w'.heap[gb]? = w.heap[gb]? from hp.other (hK gb (h.k _ h1 h3)))).trans (h7 j hj)⟩
theorem Rf.put {K : Nat → Prop} {w w' : World} {y : RV} {r : PR} {g : Nat} {cells : Array Value} (h : Rf K w y r) (hp : Put w w' g cells) (hK : ∀ b, K b → b ≠ g) : Rf K w' y r := ⟨h.at'.go (fun b hb _ => ⟨hp.other (hK b hb), hb⟩)⟩
theorem Rf.mono {K K' : Nat → Prop} {w : World} {y : RV} {r : PR} (h : Rf K w y r) (hK : ∀ b, K b → K' b) : Rf K' w y r := ⟨h.at'.go (fun b hb _ => ⟨rfl, hK b hb⟩)⟩
theorem Wt.drew {w : World} {gW base : Nat} {X : Nat → Prop} {vN : Value} {ns : List (List Int)} (h : Wt w gW base vN X ns) : Wt w.drew gW base vN X ns := h.go (Below.refl _ _).drew
theorem Wt.put {X : Nat → Prop} {w w' : World} {gW base g : Nat} {vN : Value} {ns : List (List Int)} {cells old : Array Value} {T : TypeId} (h : Wt w gW base vN X ns) (hr : Rw g w old T) (h1 : T ≠ 32) (h2 : T ≠ 77) (hX : ∀ b, X b → b ≠ g) (hp : Put w w' g cells) : Wt w' gW base vN X ns := by
  obtain ⟨vals, ⟨q1, ho⟩, hv⟩ := h.o
  have hne : gW ≠ g := by
    rintro rfl
    have := h.r
    rw [Rw, hr] at this
    simp at this
    exact h2 this.2
  refine ⟨(hp.other hne).trans h.r, ⟨vals, ⟨q1, ?_⟩, hv.1, fun j u hu => ?_⟩, h.b⟩
  case refine_2 =>
    obtain ⟨a, n, c, e, hs⟩ := hv.2 j u hu
    exact ⟨a, n, c, e, hs.put hp (fun b hb => hX b hb.2.2)⟩
  rcases ho with q | ⟨g', cap, cur, e1, e2, e3, e4⟩
  · exact .inl q
  · refine .inr ⟨g', cap, cur, e1, e2, (hp.other ?_).trans e3, e4⟩
    rintro rfl
    rw [hr] at e3
    simp at e3
    exact h1 e3.2
theorem Wg.put {w v v' : World} {gW g : Nat} {vN vN' : Value} {cells : Array Value} (h : Wg w v gW vN vN') (hp : Put v v' g cells) (hg : w.heap.size ≤ g) : Wg w v' gW vN vN' := by
  have ht := hp.touch
  exact ⟨ht.os.trans h.os, ht.tape.trans h.tape, ht.output.trans h.output, Nat.le_trans h.size ht.size, fun k hk h1 h2 => (hp.other (by omega)).trans (h.block k hk h1 h2), h.own⟩
def RRf (w : World) (gW base : Nat) (vN : Value) (X : Nat → Prop) (ns : List (List Int)) (t : Tr) : Value → World → Prop := fun u w' => ∃ (y : RV) (vN' : Value), u = .agg y.cells.toArray ∧ Rf (KW gW vN' (fun b => w.heap.size < b)) w' y (referP (encT t)) ∧ Wt w' gW base vN' X (ns ++ (nmd t ++ nm1 (encT t))) ∧ Wg w w' gW vN vN'
theorem referP_k (b : List Int) : (referP b).k = if b.length < 32 then 1 else 2 := by unfold referP; split <;> rfl
set_option maxHeartbeats 4000000 in
theorem wrefer_short {w : World} {gW base : Nat} {vN : Value} {X : Nat → Prop} {ns : List (List Int)} (hW : Wt w gW base vN X ns) {t : Tr} {T0 : TypeId} {v0 : Value} (hX : ∀ b, w.heap.size ≤ b → X b) (hE : ∀ v, Bl w v → ∀ Y : Nat → Prop, Wt v gW base vN Y ns → (∀ b, v.heap.size ≤ b → Y b) → Calls Tryz.prog 42 #[.pointer (some ⟨gW, 0, none⟩), .iface T0 v0] v fun e w' => ∃ u, e = .returned u ∧ REn v gW base vN Y ns t u w') (hM : (ns ++ nmd t).length + 1 ≤ 8800000000000) (hsh : (encT t).length < 32) :
    Calls Tryz.prog 164 #[.pointer (some ⟨gW, 0, none⟩), .iface T0 v0] w fun e w' => ∃ u, e = .returned u ∧ RRf w gW base vN X ns t u w' := by
  have hB := Bl.refl w
  have hW0 := hW
  refine cw_enter Tryz.func164 rfl 26 rfl ?_
  show CW _ _ _ _ _ _ _ [(0, .pointer (some ⟨gW, 0, none⟩)), (1, .iface T0 v0)] _
  refine cw_seq ?_
  refine cw_region ?_
  refine rw_new 4 rz.cells.toArray 60 (fun _ => by kernel_rfl) (fun _ => by kernel_rfl) ?_
  intro w1 gR hnR
  replace hB := hB.go hnR.below
  replace hW := hW.go hnR.below
  have hrR : Rw gR w1 rz.cells.toArray 60 := hnR.row
  have hgR := hnR.hg
  have hsR := hnR.size
  have hWX : Wt w1 gW base vN (fun b => X b ∧ b ≠ gR) ns := (hW0.mono (Y := fun b => X b ∧ b ≠ gR) (fun b hb hx => ⟨hx, by omega⟩)).go hnR.below
  refine rw_nil ?_
  refine nw_then ?_
  refine cw_seq ?_
  refine cw_region ?_
  refine rp 7 (.pointer (some ⟨gW, 0, none⟩)) ?_
  refine rp 8 (.iface T0 v0) ?_
  refine rw_call 9 42 #[.pointer (some ⟨gW, 0, none⟩), .iface T0 v0] (fun _ => by kernel_rfl) (fun _ => by kernel_rfl) (R := REn w1 gW base vN (fun b => X b ∧ b ≠ gR) ns t) (hE w1 hB (fun b => X b ∧ b ≠ gR) hWX (fun b hb => ⟨hX b (by omega), by omega⟩)) ?_
  rintro _ u1 ⟨a2, n2, c2, vM, rfl, hs2, hW1, hG, hen⟩
  replace hrR := hrR.wg hG hW (by decide) (by decide)
  have hGt := (Wg.of_below hB).trans hG
  clear hW hB
  have hz1 := hG.size
  have ln2 := hs2.len
  refine rp 5 (.slice a2 n2 c2) ?_
  refine rw_nil ?_
  refine nw_then ?_
  refine cw_seq ?_
  refine cw_region ?_
  refine rp 10 (.slice a2 n2 c2) ?_
  refine rw_call 11 52 #[.slice a2 n2 c2] (fun _ => by kernel_rfl) (fun _ => by kernel_rfl) (R := fun u w' => ∃ y : RV, u = .agg y.cells.toArray ∧ Rf (fun b => u1.heap.size ≤ b) w' y (referP (encT t)) ∧ Bl u1 w') ((refer_any a2 n2 c2 (encT t) u1 hs2.ag (by omega)).mono (fun e w' h => by obtain ⟨⟨y, e1, h1⟩, h2⟩ := h; exact ⟨_, e1, y, rfl, ⟨h1.go (fun b hb _ => ⟨rfl, hb.1⟩)⟩, h2⟩)) ?_
  rintro _ u2 ⟨y, rfl, hRf, hb2⟩
  have hltW := hW1.lt
  replace hrR := hrR.go hb2
  replace hGt := hGt.go hb2
  replace hW1 := hW1.go hb2
  replace hs2 := hs2.go hb2
  replace hRf : Rf (KW gW vM (fun b => w.heap.size < b)) u2 y (referP (encT t)) := hRf.mono (fun b hb => ⟨fun e => by have := hltW.1; omega, fun e => by have := hltW.2 b e; omega, by omega⟩)
  have hyl := hRf.at'.len
  have hyk : y.k = 1 := by rw [hRf.at'.1, referP_k, if_pos hsh]
  refine rw_new 6 rz.cells.toArray 60 (fun _ => by kernel_rfl) (fun _ => by kernel_rfl) ?_
  intro wA g6 hnA
  refine rw_put g6 y.cells.toArray (fun _ => by kernel_rfl) (fun _ => ol_store 60 _ _ _ _ _ _ rfl (by kernel_rfl) (by kernel_rfl) hnA.row (by rw [infoR, r_size hyl]) (by rw [r_size hyl]; rfl) (r_ones y)) ?_
  intro wC hpC
  have hnC := hnA.put hpC
  replace hrR := hrR.go hnC.below
  replace hGt := hGt.go hnC.below
  replace hW1 := hW1.go hnC.below
  replace hs2 := hs2.go hnC.below
  replace hRf := hRf.go hnC.below
  have hr6 : Rw g6 wC y.cells.toArray 60 := hnC.row
  refine rw_nil ?_
  refine nw_then ?_
  refine cw_seq ?_
  refine cw_seq ?_
  refine cw_region ?_
  refine rp 12 (.pointer (some ⟨g6, 0, none⟩)) ?_
  refine rv 13 (.int .i64 1) (fun _ => ol_cell 3 _ ⟨g6, 0, none⟩ _ _ rfl (by kernel_rfl) (by rw [cell_of_row _ _ _ _ _ _ hr6, ← hyk]; rfl) Tryz.underlying3 rfl) ?_
  refine rp 14 (.bool false) ?_
  refine rw_nil ?_
  refine nw_then ?_
  refine cw_cond_f (fun _ => by kernel_rfl) ?_
  refine cw_skip ?_
  refine nw_then ?_
  refine cw_seq ?_
  refine cw_region ?_
  refine rv 25 (.agg y.cells.toArray) (fun _ => ol_row 60 _ _ _ _ _ _ rfl (by kernel_rfl) hr6 Tryz.underlying60 rfl (by rw [infoR, r_size hyl])) ?_
  refine rw_put gR y.cells.toArray (fun _ => by kernel_rfl) (fun _ => ol_store 60 _ _ _ _ _ _ rfl (by kernel_rfl) (by kernel_rfl) hrR (by rw [infoR, r_size hyl]) (by rw [r_size hyl]; rfl) (r_ones y)) ?_
  intro wE hpE
  have hrE : Rw gR wE y.cells.toArray 60 := hpE.row hrR
  have hRE := hRf.put hpE (fun b hb => by have := hb.2.2; omega)
  have hWE := (hW1.put hrR (by decide) (by decide) (fun b hb => hb.2) hpE).mono (fun b _ hb => hb.1)
  have hGE := hGt.put hpE (by omega)
  refine rw_nil ?_
  refine nw_then ?_
  refine cw_ret ?_
  exact nw_ret_body (.agg y.cells.toArray) (fun _ => results_r Tryz.results164 _ gR y hyl (by kernel_rfl) hrE) ⟨_, rfl, y, vM, rfl, hRE, (by rw [show nm1 (encT t) = [] from by unfold nm1; rw [if_pos hsh], List.append_nil]; exact hWE), hGE⟩
set_option maxHeartbeats 4000000 in
theorem wrefer_long {w : World} {gW base : Nat} {vN : Value} {X : Nat → Prop} {ns : List (List Int)} (hW : Wt w gW base vN X ns) {t : Tr} {T0 : TypeId} {v0 : Value} (hX : ∀ b, w.heap.size ≤ b → X b) (hE : ∀ v, Bl w v → ∀ Y : Nat → Prop, Wt v gW base vN Y ns → (∀ b, v.heap.size ≤ b → Y b) → Calls Tryz.prog 42 #[.pointer (some ⟨gW, 0, none⟩), .iface T0 v0] v fun e w' => ∃ u, e = .returned u ∧ REn v gW base vN Y ns t u w') (hM : (ns ++ nmd t).length + 1 ≤ 8800000000000) (hsh : ¬ (encT t).length < 32) :
    Calls Tryz.prog 164 #[.pointer (some ⟨gW, 0, none⟩), .iface T0 v0] w fun e w' => ∃ u, e = .returned u ∧ RRf w gW base vN X ns t u w' := by
  have hB := Bl.refl w
  have hW0 := hW
  refine cw_enter Tryz.func164 rfl 26 rfl ?_
  show CW _ _ _ _ _ _ _ [(0, .pointer (some ⟨gW, 0, none⟩)), (1, .iface T0 v0)] _
  refine cw_seq ?_
  refine cw_region ?_
  refine rw_new 4 rz.cells.toArray 60 (fun _ => by kernel_rfl) (fun _ => by kernel_rfl) ?_
  intro w1 gR hnR
  replace hB := hB.go hnR.below
  replace hW := hW.go hnR.below
  have hrR : Rw gR w1 rz.cells.toArray 60 := hnR.row
  have hgR := hnR.hg
  have hsR := hnR.size
  have hWX : Wt w1 gW base vN (fun b => X b ∧ b ≠ gR) ns := (hW0.mono (Y := fun b => X b ∧ b ≠ gR) (fun b hb hx => ⟨hx, by omega⟩)).go hnR.below
  refine rw_nil ?_
  refine nw_then ?_
  refine cw_seq ?_
  refine cw_region ?_
  refine rp 7 (.pointer (some ⟨gW, 0, none⟩)) ?_
  refine rp 8 (.iface T0 v0) ?_
  refine rw_call 9 42 #[.pointer (some ⟨gW, 0, none⟩), .iface T0 v0] (fun _ => by kernel_rfl) (fun _ => by kernel_rfl) (R := REn w1 gW base vN (fun b => X b ∧ b ≠ gR) ns t) (hE w1 hB (fun b => X b ∧ b ≠ gR) hWX (fun b hb => ⟨hX b (by omega), by omega⟩)) ?_
  rintro _ u1 ⟨a2, n2, c2, vM, rfl, hs2, hW1, hG, hen⟩
  replace hrR := hrR.wg hG hW (by decide) (by decide)
  have hGt := (Wg.of_below hB).trans hG
  clear hW hB
  have hz1 := hG.size
  have ln2 := hs2.len
  refine rp 5 (.slice a2 n2 c2) ?_
  refine rw_nil ?_
  refine nw_then ?_
  refine cw_seq ?_
  refine cw_region ?_
  refine rp 10 (.slice a2 n2 c2) ?_
  refine rw_call 11 52 #[.slice a2 n2 c2] (fun _ => by kernel_rfl) (fun _ => by kernel_rfl) (R := fun u w' => ∃ y : RV, u = .agg y.cells.toArray ∧ Rf (fun b => u1.heap.size ≤ b) w' y (referP (encT t)) ∧ Bl u1 w') ((refer_any a2 n2 c2 (encT t) u1 hs2.ag (by omega)).mono (fun e w' h => by obtain ⟨⟨y, e1, h1⟩, h2⟩ := h; exact ⟨_, e1, y, rfl, ⟨h1.go (fun b hb _ => ⟨rfl, hb.1⟩)⟩, h2⟩)) ?_
  rintro _ u2 ⟨y, rfl, hRf, hb2⟩
  have hltW := hW1.lt
  replace hrR := hrR.go hb2
  replace hGt := hGt.go hb2
  replace hW1 := hW1.go hb2
  replace hs2 := hs2.go hb2
  replace hRf : Rf (KW gW vM (fun b => w.heap.size < b)) u2 y (referP (encT t)) := hRf.mono (fun b hb => ⟨fun e => by have := hltW.1; omega, fun e => by have := hltW.2 b e; omega, by omega⟩)
  have hyl := hRf.at'.len
  have hyk : y.k = 2 := by rw [hRf.at'.1, referP_k, if_neg hsh]
  refine rw_new 6 rz.cells.toArray 60 (fun _ => by kernel_rfl) (fun _ => by kernel_rfl) ?_
  intro wA g6 hnA
  refine rw_put g6 y.cells.toArray (fun _ => by kernel_rfl) (fun _ => ol_store 60 _ _ _ _ _ _ rfl (by kernel_rfl) (by kernel_rfl) hnA.row (by rw [infoR, r_size hyl]) (by rw [r_size hyl]; rfl) (r_ones y)) ?_
  intro wC hpC
  have hnC := hnA.put hpC
  replace hrR := hrR.go hnC.below
  replace hGt := hGt.go hnC.below
  replace hW1 := hW1.go hnC.below
  replace hs2 := hs2.go hnC.below
  replace hRf := hRf.go hnC.below
  have hr6 : Rw g6 wC y.cells.toArray 60 := hnC.row
  refine rw_nil ?_
  refine nw_then ?_
  refine cw_seq ?_
  refine cw_seq ?_
  refine cw_region ?_
  refine rp 12 (.pointer (some ⟨g6, 0, none⟩)) ?_
  refine rv 13 (.int .i64 2) (fun _ => ol_cell 3 _ ⟨g6, 0, none⟩ _ _ rfl (by kernel_rfl) (by rw [cell_of_row _ _ _ _ _ _ hr6, ← hyk]; rfl) Tryz.underlying3 rfl) ?_
  refine rp 14 (.bool true) ?_
  refine rw_nil ?_
  refine nw_then ?_
  refine cw_cond_t (fun _ => by kernel_rfl) ?_
  refine cw_region ?_
  refine rp 15 (.pointer (some ⟨gW, 0, none⟩)) ?_
  refine rp 16 (.pointer (some ⟨gW, 0, none⟩)) ?_
  refine rp 17 (.pointer (some ⟨gW, 0, none⟩)) ?_
  refine rp 18 (.pointer (some ⟨gW, 0, none⟩)) ?_
  refine rv 19 (vM) (fun _ => ol_cell 47 _ ⟨gW, 0, none⟩ _ _ rfl (by kernel_rfl) (by rw [cell_of_row _ _ _ _ _ _ hW1.r]; rfl) Tryz.underlying47 rfl) ?_
  refine rp 20 (.slice a2 n2 c2) ?_
  refine rw_newS 21 #[.slice a2 n2 c2] 32 1 (fun _ => by kernel_rfl) (fun _ => by kernel_rfl) ?_
  intro wL gL hnL
  replace hrR := hrR.go hnL.below
  replace hGt := hGt.go hnL.below
  replace hW1 := hW1.go hnL.below
  replace hs2 := hs2.go hnL.below
  replace hRf := hRf.go hnL.below
  replace hr6 := hr6.go hnL.below
  have hLr : Rw gL wL #[.slice a2 n2 c2] 32 := hnL.row
  obtain ⟨vP, wP, hrP, hNA, hrW, hvc, hv1⟩ := names_app hW1 (hs2.mono (K' := KW gW vM (fun b => X b ∧ b ≠ gR)) (fun b hb => ⟨hb.1, hb.2.1, hX b (by have := hb.2.2; omega), by have := hb.2.2; omega⟩)) hLr (by simp only [List.length_append] at hM ⊢; omega)
  refine rw_v 22 vP (fun _ => by kernel_rfl) (fun _ => ol_app2 hrP _ _ rfl (by kernel_rfl) (by kernel_rfl)) ?_
  refine rp 23 (.pointer (some ⟨gW, 0, none⟩)) ?_
  refine rp 24 (.pointer (some ⟨gW, 0, none⟩)) ?_
  refine rw_set1 gW 0 vP (fun _ => by kernel_rfl) (fun _ => ol_setC 47 _ _ gW 0 _ 77 _ hrW rfl (by kernel_rfl) (by kernel_rfl) (by show 0 < 1; omega) hvc hv1 (by kernel_rfl)) ?_
  intro wD hpD
  obtain ⟨hW2, hG2⟩ := hNA wD hpD
  replace hrR := hrR.wg hG2 hW1 (by decide) (by decide)
  replace hr6 := hr6.wg hG2 hW1 (by decide) (by decide)
  replace hRf := hRf.wg hG2
  replace hGt := hGt.trans hG2
  clear hW1 hs2
  have hW1 := hW2
  refine rw_nil ?_
  refine nw_then ?_
  refine cw_seq ?_
  refine cw_region ?_
  refine rv 25 (.agg y.cells.toArray) (fun _ => ol_row 60 _ _ _ _ _ _ rfl (by kernel_rfl) hr6 Tryz.underlying60 rfl (by rw [infoR, r_size hyl])) ?_
  refine rw_put gR y.cells.toArray (fun _ => by kernel_rfl) (fun _ => ol_store 60 _ _ _ _ _ _ rfl (by kernel_rfl) (by kernel_rfl) hrR (by rw [infoR, r_size hyl]) (by rw [r_size hyl]; rfl) (r_ones y)) ?_
  intro wE hpE
  have hrE : Rw gR wE y.cells.toArray 60 := hpE.row hrR
  have hRE := hRf.put hpE (fun b hb => by have := hb.2.2; omega)
  have hWE := (hW1.put hrR (by decide) (by decide) (fun b hb => hb.2) hpE).mono (fun b _ hb => hb.1)
  have hGE := hGt.put hpE (by omega)
  refine rw_nil ?_
  refine nw_then ?_
  refine cw_ret ?_
  exact nw_ret_body (.agg y.cells.toArray) (fun _ => results_r Tryz.results164 _ gR y hyl (by kernel_rfl) hrE) ⟨_, rfl, y, vP, rfl, hRE, (by rw [show nm1 (encT t) = [encT t] from by unfold nm1; rw [if_neg hsh], ← List.append_assoc]; exact hWE), hGE⟩
end Go.Proofs.YtdkpilgelgjieaaGreat
/- What a writer writes: extensions. -/
namespace Go.Proofs.YtdkpilgelgjieaaGreat
open Go.RowKit
open Tr
set_option linter.unusedVariables false
set_option maxRecDepth 100000
theorem Sk.aged {X : Nat → Prop} {w : World} {gW : Nat} {vN : Value} {a : Option Addr} {n c : Nat} {bs : List Int} (h : Sk (KW gW vN X) w a n c bs) : Sk (KW gW vN (fun b => b < w.heap.size)) w a n c bs := ⟨h.ag, fun x hx hn => by have hk := h.k x hx hn; exact ⟨hk.1, hk.2.1, h.old hx hn⟩⟩
theorem ag_none (w : World) : AgK (fun _ => True) w none 0 0 [] := ⟨⟨.inl ⟨rfl, rfl⟩, fun _ => ⟨rfl, rfl⟩, rfl, fun x hx => by cases hx⟩, Nat.zero_le _, fun _ _ _ _ => trivial⟩
theorem n_ones (y : NV) : y.cells.toArray.all (·.oneCell') = true := all_oneCell_toArray (NV.one y)
set_option maxHeartbeats 4000000 in
theorem enode_any {w : World} {gW base : Nat} {vN : Value} {X : Nat → Prop} {ns : List (List Int)} (hW : Wt w gW base vN X ns) {Z : Nat → Prop} {a : Option Addr} {n c : Nat} {p : List Int} {t : Tr} {Tu : TypeId} {xu : Value} (hp : Sk (KW gW vN Z) w a n c p) (hl1 : n ≤ 1000) (hX : ∀ b, w.heap.size ≤ b → X b) (hR : ∀ v, Bl w v → ∀ Y : Nat → Prop, Wt v gW base vN Y ns → (∀ b, v.heap.size ≤ b → Y b) → Calls Tryz.prog 164 #[.pointer (some ⟨gW, 0, none⟩), .iface Tu xu] v fun e w' => ∃ u, e = .returned u ∧ RRf v gW base vN Y ns t u w') :
    Calls Tryz.prog 167 #[.agg #[.slice a n c, .iface Tu xu], .pointer (some ⟨gW, 0, none⟩)] w fun e w' => ∃ u, e = .returned u ∧ RNd w gW base vN X ns (ext p t) u w' := by
  have hB := Bl.refl w
  replace hp := hp.aged
  have hW0 := hW
  refine cw_enter Tryz.func167 rfl 12 rfl ?_
  show CW _ _ _ _ _ _ _ [(0, .agg #[.slice a n c, .iface Tu xu]), (1, .pointer (some ⟨gW, 0, none⟩))] _
  refine cw_seq ?_
  refine cw_region ?_
  refine rw_new 2 (#[.slice a n c, .iface Tu xu]) 189 (fun _ => by kernel_rfl) (fun _ => by kernel_rfl) ?_
  intro w1 g2 hn3
  replace hB := hB.go hn3.below
  replace hp := hp.go hn3.below
  replace hW := hW.go hn3.below
  have hr4 : Rw g2 w1 (#[.slice a n c, .iface Tu xu]) 189 := hn3.row
  have hgb := hn3.hg
  have hsb := hn3.size
  refine rw_new 4 nz.cells.toArray 104 (fun _ => by kernel_rfl) (fun _ => by kernel_rfl) ?_
  intro wN gN hnN
  replace hB := hB.go hnN.below
  replace hp := hp.go hnN.below
  replace hW := hW.go hnN.below
  replace hr4 := hr4.go hnN.below
  have hrN : Rw gN wN nz.cells.toArray 104 := hnN.row
  have hgN := hnN.hg
  have hsN := hnN.size
  have hWX : Wt wN gW base vN (fun b => X b ∧ b ≠ gN) ns := (hW0.mono (Y := fun b => X b ∧ b ≠ gN) (fun b hb hx => ⟨hx, by omega⟩)).go hB
  refine rw_nil ?_
  refine nw_then ?_
  refine cw_seq ?_
  refine cw_draw (fun v => Rw g2 v (#[.slice a n c, .iface Tu xu]) 189) (by kernel_rfl) (hr4.drew) ?_
  replace hB := hB.drew
  replace hp := hp.drew
  replace hW := hW.drew
  replace hr4 := hr4.drew
  replace hrN := hrN.drew
  replace hWX := hWX.drew
  refine dt 0 5 (.pointer (some ⟨g2, 0, none⟩)) (fun v hv _ => by kernel_rfl) hr4 ?_
  refine dt 1 6 (.slice a n c) (fun v hv _ => ol_cell 32 _ ⟨g2, 0, none⟩ _ _ rfl (by kernel_rfl) (by rw [cell_of_row _ _ _ _ _ _ hv]; rfl) Tryz.underlying32 rfl) hr4 ?_
  refine dt 2 7 (.pointer (some ⟨gW, 0, none⟩)) (fun v hv _ => by kernel_rfl) hr4 ?_
  refine dt 3 8 (.pointer (some ⟨g2, 1, none⟩)) (fun v hv _ => by kernel_rfl) hr4 ?_
  refine dt 4 9 (.iface Tu xu) (fun v hv _ => ol_cell 70 _ ⟨g2, 1, none⟩ _ _ rfl (by kernel_rfl) (by rw [cell_of_row _ _ _ _ _ _ hv]; rfl) Tryz.underlying70 rfl) hr4 ?_
  refine dw_ready [5] (by kernel_rfl) (by simp) ?_
  refine ar_call 5 10 164 #[.pointer (some ⟨gW, 0, none⟩), .iface Tu xu] rfl (fun _ => by kernel_rfl) (fun _ => by kernel_rfl) (R := RRf (wN.drew) gW base vN (fun b => X b ∧ b ≠ gN) ns t) (hR (wN.drew) hB (fun b => X b ∧ b ≠ gN) hWX (fun b hb => ⟨hX b (Nat.le_trans hB.size hb), fun e => by have hq : gN < (wN.drew).heap.size := lt_of_get hrN; omega⟩)) (fun u w' h => by obtain ⟨_, _, _, _, _, hg⟩ := h; exact hr4.wg hg hWX (by decide) (by decide)) ?_ ar_nil
  rintro _ u1 ⟨y, vM, rfl, hRf, hW1, hG⟩
  have hq1 : gN < _ := lt_of_get hrN
  replace hr4 := hr4.wg hG hWX (by decide) (by decide)
  replace hrN := hrN.wg hG hWX (by decide) (by decide)
  have hGt := (Wg.of_below hB).trans hG
  replace hp := hp.wg hG
  have hyl := hRf.at'.len
  clear hB hW hWX
  refine dt 6 11 (.agg (NV.cells ⟨2, a, n, c, none, 0, 0, y, none, 0, 0⟩).toArray) (fun v hv _ => ol_build 104 _ [(0, .int .i64 2), (1, .slice a n c), (3, .agg y.cells.toArray)] _ rfl (by kernel_rfl) (built_N2 _ _ _ _ hyl)) hr4 ?_
  refine dw_ready [7] (by kernel_rfl) (by simp) ?_
  refine ar_put 7 gN ((NV.cells ⟨2, a, n, c, none, 0, 0, y, none, 0, 0⟩).toArray) rfl (fun _ => by kernel_rfl) (fun _ => ol_store 104 _ _ _ _ _ _ rfl (by kernel_rfl) (by kernel_rfl) hrN (by rw [infoN, n_size (y := ⟨2, a, n, c, none, 0, 0, y, none, 0, 0⟩) hyl]) (by rw [n_size (y := ⟨2, a, n, c, none, 0, 0, y, none, 0, 0⟩) hyl]; rfl) (n_ones _)) (fun w' h => (h.other (by omega)).trans hr4) ?_ ar_nil
  intro w5 hp6
  have hrE : Rw gN w5 (NV.cells ⟨2, a, n, c, none, 0, 0, y, none, 0, 0⟩).toArray 104 := hp6.row hrN
  have hRE := hRf.put hp6 (fun b hb => by have := hb.2.2; omega)
  have hpE := hp.put hp6 (fun b hb => by have := hb.2.2; omega)
  have hWE := (hW1.put hrN (by decide) (by decide) (fun b hb => hb.2) hp6).mono (fun b _ hb => hb.1)
  have hGE := hGt.put hp6 (by omega)
  refine dw_done (by kernel_rfl) ?_
  refine nw_then ?_
  refine cw_ret ?_
  have lp := hpE.len
  exact nw_ret_body (.agg (NV.cells ⟨2, a, n, c, none, 0, 0, y, none, 0, 0⟩).toArray) (fun _ => results_n Tryz.results167 _ gN ⟨2, a, n, c, none, 0, 0, y, none, 0, 0⟩ hyl (by kernel_rfl) hrE) ⟨_, rfl, ⟨2, a, n, c, none, 0, 0, y, none, 0, 0⟩, vM, rfl, ⟨rfl, hpE.agk (by omega), ag_none _, hRE.at'.go (fun b hb _ => ⟨rfl, trivial⟩), ⟨rfl, Nat.le_refl _, Nat.zero_le _, Nat.zero_le _, fun _ => ⟨rfl, rfl⟩⟩, fun j r hr => by simp [nodeP] at hr⟩, hWE, hGE⟩
end Go.Proofs.YtdkpilgelgjieaaGreat
/- What a writer writes: branches. -/
namespace Go.Proofs.YtdkpilgelgjieaaGreat
open Go.RowKit
open Tr
set_option linter.unusedVariables false
set_option maxRecDepth 100000
theorem sc_other (b k : Nat) (hk : k ≠ b) : ∀ (vs : List Value) (o : Nat) (w : World), (w.setCells b o vs).heap[k]? = w.heap[k]?
  | [], _, _ => rfl
  | v :: r, o, w => (sc_other b k hk r (o + 1) _).trans (heap_setCell_other _ _ _ _ hk)
theorem sc_same (b : Nat) : ∀ (vs : List Value) (o : Nat) (w : World), (w.setCells b o vs).os = w.os ∧ (w.setCells b o vs).tape = w.tape ∧ (w.setCells b o vs).output = w.output ∧ (w.setCells b o vs).heap.size = w.heap.size
  | [], _, _ => ⟨rfl, rfl, rfl, rfl⟩
  | v :: r, o, w => by
    obtain ⟨h1, h2, h3, h4⟩ := sc_same b r (o + 1) (w.setCell ⟨b, o, none⟩ v)
    exact ⟨h1, h2, h3, h4.trans (by simp)⟩
theorem sc_row (b : Nat) (t : TypeId) : ∀ (vs : List Value) (o : Nat) (w : World) (cur : Array Value), w.heap[b]? = some (.cells cur t (0, 0)) → ∃ cur' : Array Value, (w.setCells b o vs).heap[b]? = some (.cells cur' t (0, 0)) ∧ cur'.size = cur.size
  | [], _, _, cur, h => ⟨cur, h, rfl⟩
  | v :: r, o, w, cur, h => by
    obtain ⟨c', h1, h2⟩ := sc_row b t r (o + 1) (w.setCell ⟨b, o, none⟩ v) _ (heap_setCell_same w b o cur t v h)
    exact ⟨c', h1, by rw [h2]; simp⟩
/-- One block is written. -/
structure St (w w' : World) (g : Nat) : Prop where
  other : ∀ k, k ≠ g → w'.heap[k]? = w.heap[k]?
  os : w'.os = w.os
  tape : w'.tape = w.tape
  output : w'.output = w.output
  size : w'.heap.size = w.heap.size
theorem St.of (w : World) (g o : Nat) (vs : List Value) : St w (w.setCells g o vs) g := by
  obtain ⟨h1, h2, h3, h4⟩ := sc_same g vs o w
  exact ⟨fun k hk => sc_other g k hk vs o w, h1, h2, h3, h4⟩
theorem Sk.st {K : Nat → Prop} {w w' : World} {a : Option Addr} {n c : Nat} {bs : List Int} {g : Nat} (h : Sk K w a n c bs) (hp : St w w' g) (hK : ∀ b, K b → b ≠ g) : Sk K w' a n c bs := by
  refine ⟨⟨?_, h.ag.nil, h.ag.l, h.ag.b⟩, h.k⟩
  rcases h.ag.i with h1 | ⟨gb, off, h1, h2, h3, h4, h5, h7⟩
  · exact .inl h1
  · exact .inr ⟨gb, off, h1, h2, h3, h4, h5, fun j hj => (World.cell?_of_block (show w'.heap[gb]? = w.heap[gb]? from hp.other gb (hK gb (h.k _ h1 h3)))).trans (h7 j hj)⟩
theorem TA.st {K : Nat → Prop} {w w' : World} {g : Nat} (hp : St w w' g) (hK : ∀ b, K b → b ≠ g) : ∀ {t : Tr} {v : Value}, TA K w t v → TA K w' t v := by
  intro t
  induction t with
  | no => intro v h; exact h
  | leaf p x => rintro v ⟨a, n, c, a', n', c', h1, h2, h3, h4⟩; exact ⟨a, n, c, a', n', c', h1, h2.st hp hK, h3.st hp hK, h4⟩
  | ext p t ih => rintro v ⟨a, n, c, u, h1, h2, h3⟩; exact ⟨a, n, c, u, h1, h2.st hp hK, ih h3⟩
  | br k x ih => rintro v ⟨vs, a, n, c, h1, h2, h3, h4⟩; exact ⟨vs, a, n, c, h1, fun i hi => ih i (h2 i hi), h3.st hp hK, h4⟩
theorem TK.st {K : Nat → Prop} {w w' : World} {g : Nat} {k : Nat → Tr} {vs : Nat → Value} (h : TK K w k vs) (hp : St w w' g) (hK : ∀ b, K b → b ≠ g) : TK K w' k vs := fun i hi => (h i hi).st hp hK
theorem TA.aged {X : Nat → Prop} {w : World} {gW : Nat} {vN : Value} : ∀ {t : Tr} {v : Value}, TA (KW gW vN X) w t v → TA (KW gW vN (fun b => b < w.heap.size)) w t v := by
  intro t
  induction t with
  | no => intro v h; exact h
  | leaf p x => rintro v ⟨a, n, c, a', n', c', h1, h2, h3, h4⟩; exact ⟨a, n, c, a', n', c', h1, h2.aged, h3.aged, h4⟩
  | ext p t ih => rintro v ⟨a, n, c, u, h1, h2, h3⟩; exact ⟨a, n, c, u, h1, h2.aged, ih h3⟩
  | br k x ih => rintro v ⟨vs, a, n, c, h1, h2, h3, h4⟩; exact ⟨vs, a, n, c, h1, fun i hi => ih i (h2 i hi), h3.aged, h4⟩
theorem TK.aged {X : Nat → Prop} {w : World} {gW : Nat} {vN : Value} {k : Nat → Tr} {vs : Nat → Value} (h : TK (KW gW vN X) w k vs) : TK (KW gW vN (fun b => b < w.heap.size)) w k vs := fun i hi => (h i hi).aged
theorem Rf.st {K : Nat → Prop} {w w' : World} {y : RV} {r : PR} {g : Nat} (h : Rf K w y r) (hp : St w w' g) (hK : ∀ b, K b → b ≠ g) : Rf K w' y r := ⟨h.at'.go (fun b hb _ => ⟨hp.other b (hK b hb), hb⟩)⟩
theorem Rw.st {g g' : Nat} {w w' : World} {cells : Array Value} {T : TypeId} (h : Rw g w cells T) (hp : St w w' g') (hne : g ≠ g') : Rw g w' cells T := (hp.other g hne).trans h
theorem Wt.st {X : Nat → Prop} {w w' : World} {gW base g : Nat} {vN : Value} {ns : List (List Int)} {old : Array Value} {T : TypeId} (h : Wt w gW base vN X ns) (hr : w.heap[g]? = some (.cells old T (0, 0))) (h1 : T ≠ 32) (h2 : T ≠ 77) (hX : ∀ b, X b → b ≠ g) (hp : St w w' g) : Wt w' gW base vN X ns := by
  obtain ⟨vals, ⟨q1, ho⟩, hv⟩ := h.o
  have hne : gW ≠ g := by
    rintro rfl
    have := h.r
    rw [Rw, hr] at this
    simp at this
    exact h2 this.2
  refine ⟨(hp.other _ hne).trans h.r, ⟨vals, ⟨q1, ?_⟩, hv.1, fun j u hu => ?_⟩, h.b⟩
  case refine_2 =>
    obtain ⟨a, n, c, e, hs⟩ := hv.2 j u hu
    exact ⟨a, n, c, e, hs.st hp (fun b hb => hX b hb.2.2)⟩
  rcases ho with q | ⟨g', cap, cur, e1, e2, e3, e4⟩
  · exact .inl q
  · refine .inr ⟨g', cap, cur, e1, e2, (hp.other _ ?_).trans e3, e4⟩
    rintro rfl
    rw [hr] at e3
    simp at e3
    exact h1 e3.2
theorem Wg.st {w v v' : World} {gW g : Nat} {vN vN' : Value} (h : Wg w v gW vN vN') (hp : St v v' g) (hg : w.heap.size ≤ g) : Wg w v' gW vN vN' :=
  ⟨hp.os.trans h.os, hp.tape.trans h.tape, hp.output.trans h.output, by rw [hp.size]; exact h.size, fun k hk h1 h2 => (hp.other k (by omega)).trans (h.block k hk h1 h2), h.own⟩
/-- Sixteen references in a block of their own. -/
def kz : Array Value := (Array.range 544).map (fun x => rz.cells.toArray[x % 34]!)
def updR (ys : Nat → RV) (i : Nat) (y : RV) : Nat → RV := fun j => if j = i then y else ys j
structure Kr (gK : Nat) (w : World) (ys : Nat → RV) : Prop where
  row : ∃ cur : Array Value, w.heap[gK]? = some (.cells cur 60 (0, 0)) ∧ cur.size = 544
  rng : ∀ i, i < 16 → w.rangeAt gK (0 + i * 34) (ys i).cells
  ln : ∀ i, (ys i).d.length = 32
theorem Kr.same {gK : Nat} {w w' : World} {ys : Nat → RV} (h : Kr gK w ys) (e : w'.heap[gK]? = w.heap[gK]?) : Kr gK w' ys := by
  obtain ⟨cur, h1, h2⟩ := h.row
  exact ⟨⟨cur, e.trans h1, h2⟩, fun i hi m v hv => (World.cell?_of_block (show w'.heap[gK]? = w.heap[gK]? from e)).trans (h.rng i hi m v hv), h.ln⟩
theorem Kr.wg {gK : Nat} {w w' : World} {gW base : Nat} {X : Nat → Prop} {vN vN' : Value} {ns : List (List Int)} {ys : Nat → RV} (h : Kr gK w ys) (hg : Wg w w' gW vN vN') (hw : Wt w gW base vN X ns) : Kr gK w' ys := by
  obtain ⟨cur, h1, h2⟩ := h.row
  exact h.same ((hg.row hw h1 (by decide) (by decide)).trans h1.symm)
theorem Kr.lt {gK : Nat} {w : World} {ys : Nat → RV} (h : Kr gK w ys) : gK < w.heap.size := by
  obtain ⟨cur, h1, h2⟩ := h.row
  exact lt_of_get h1
theorem Kr.there {gK : Nat} {w : World} {ys : Nat → RV} (h : Kr gK w ys) {j : Nat} (hj : j < 16) : w.there gK (0 + j * 34) 34 := by
  obtain ⟨cur, h1, h2⟩ := h.row
  intro m hm
  refine ⟨?_, frozen_of_row _ _ _ _ _ h1⟩
  rw [cell_of_row _ _ _ _ _ _ h1, Array.getElem?_eq_getElem (by omega)]
  rfl
theorem Kr.put {gK : Nat} {w : World} {ys : Nat → RV} (h : Kr gK w ys) {j : Nat} (hj : j < 16) {y : RV} (hy : y.d.length = 32) : Kr gK (w.setCells gK (0 + j * 34) y.cells) (updR ys j y) := by
  have ht := h.there hj
  obtain ⟨cur, h1, h2⟩ := h.row
  obtain ⟨cur', h3, h4⟩ := sc_row gK 60 y.cells (0 + j * 34) w cur h1
  refine ⟨⟨cur', h3, h4.trans h2⟩, fun i hi => ?_, fun i => ?_⟩
  · unfold updR
    by_cases e : i = j
    · rw [if_pos e, e]
      exact World.rangeAt_setCells_same w gK (0 + j * 34) y.cells (by rw [RV.len hy]; exact ht)
    · rw [if_neg e]
      refine World.rangeAt_setCells_apart (h.rng i hi) gK (0 + j * 34) y.cells (.inr ?_)
      rw [RV.len (h.ln i), RV.len hy]
      omega
  · unfold updR
    split
    · exact hy
    · exact h.ln i
theorem Kr.new {w w' : World} {gK : Nat} (h : New w w' gK kz 60) : Kr gK w' (fun _ => rz) := by
  refine ⟨⟨kz, h.row, by simp [kz]⟩, fun i hi m v hv => ?_, fun _ => rfl⟩
  have hm : m < 34 := by have := (List.getElem?_eq_some_iff.1 hv).1; rw [RV.len (x := rz) rfl] at this; exact this
  rw [cell_of_row _ _ _ _ _ _ h.row]
  unfold kz
  rw [Array.getElem?_map, Array.getElem?_eq_getElem (by rw [Array.size_range]; omega)]
  rw [Array.getElem_range, Option.map_some]
  rw [show (0 + i * 34 + m) % 34 = m from by omega]
  rw [← hv, getElem!_pos _ _ (by rw [List.size_toArray, RV.len (x := rz) rfl]; exact hm)]
  simp
theorem ol_storeM {ρ : Operand → Value} {w : World} {o : Oper} (x z : Operand) {gK j : Nat} {ys : Nat → RV} {y : RV} (h : Kr gK w ys) (hj : j < 16) (hy : y.d.length = 32) (ho : o.op = .store 60 x z) (hx : ρ x = .pointer (some ⟨gK, 0 + j * 34, none⟩)) (hz : ρ z = .agg y.cells.toArray) :
    (execOp ρ o).run Tryz.prog w = .ok .skip (w.setCells gK (0 + j * 34) y.cells) := by
  have := run_storeAt_mid (P := Tryz.prog) w gK (0 + j * 34) 60 y.cells.toArray (by rw [r_size hy]; exact h.there hj) (by rw [infoR, r_size hy]) (r_ones y)
  unfold execOp
  simp only [ho, hx, hz, Sem.run_bind, this, Result.andThen_ok, Sem.run_pure]
end Go.Proofs.YtdkpilgelgjieaaGreat
/- What writing into a row of one's own leaves as it was. -/
namespace Go.Proofs.YtdkpilgelgjieaaGreat
open Go.RowKit
open Tr
set_option linter.unusedVariables false
set_option maxRecDepth 100000
/-- Blocks that are not the row's. -/
def KF (v : Value) : Nat → Prop := fun b => v.ownBlock ≠ some b
/-- What laying things into a row of one's own leaves: all blocks but the row's. -/
structure Fg (w w' : World) (v v' : Value) : Prop where
  os : w'.os = w.os
  tape : w'.tape = w.tape
  output : w'.output = w.output
  size : w.heap.size ≤ w'.heap.size
  block : ∀ k, k < w.heap.size → KF v k → w'.heap[k]? = w.heap[k]?
  own : v'.ownBlock = v.ownBlock ∨ ∀ k, v'.ownBlock = some k → w.heap.size ≤ k
theorem Fg.of_below {w w' : World} {v : Value} (h : Bl w w') : Fg w w' v v := ⟨Below.os h, Below.tape h, Below.output h, h.size, fun k hk _ => Below.block h k hk, .inl rfl⟩
theorem Fg.keep {w w' : World} {v v' : Value} (h : Fg w w' v v') : Keep (KF v) (KF v') w w' := fun g hg hl => ⟨h.block g hl hg, by
  rcases h.own with e | e
  · unfold KF; rw [e]; exact hg
  · intro q; have := e g q; omega⟩
theorem Fg.trans {w u z : World} {a b c : Value} (h : Fg w u a b) (k : Fg u z b c) : Fg w z a c := by
  refine ⟨k.os.trans h.os, k.tape.trans h.tape, k.output.trans h.output, Nat.le_trans h.size k.size, fun i hi ha => ?_, ?_⟩
  · have q := h.keep i ha hi
    exact (k.block i (Nat.lt_of_lt_of_le hi h.size) q.2).trans q.1
  · rcases k.own with e | e
    · rcases h.own with e2 | e2
      · exact .inl (e.trans e2)
      · exact .inr (fun k hk => e2 k (e ▸ hk))
    · exact .inr (fun k hk => Nat.le_trans h.size (e k hk))
theorem Sk.keep {K L : Nat → Prop} {w w' : World} {a : Option Addr} {n c : Nat} {bs : List Int} (h : Sk K w a n c bs) (hk : Keep K L w w') : Sk L w' a n c bs := by
  refine ⟨ag_keep h.ag (fun g off e h0 hl => (hk g (h.k _ e h0) hl).1), fun x hx h0 => ?_⟩
  exact (hk _ (h.k x hx h0) (h.old hx h0)).2
theorem keep_bl {K : Nat → Prop} {w w' : World} (h : Bl w w') : Keep K K w w' := fun g hg hl => ⟨Below.block h g hl, hg⟩
theorem Rw.fg {w w' : World} {v v' : Value} {g : Nat} {cells : Array Value} {T : TypeId} (h : Rw g w cells T) (hf : Fg w w' v v') (hk : KF v g) : Rw g w' cells T ∧ KF v' g := by
  have q := hf.keep g hk (lt_of_get h)
  exact ⟨q.1.trans h, q.2⟩
end Go.Proofs.YtdkpilgelgjieaaGreat

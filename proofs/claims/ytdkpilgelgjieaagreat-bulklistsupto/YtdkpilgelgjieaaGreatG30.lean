/- What the document's Unpack answers. -/
import Derived.Test.YtdkpilgelgjieaaGreatG18
import Derived.Test.YtdkpilgelgjieaaGreatG14
import Derived.Test.YtdkpilgelgjieaaGreatG29
import Derived.Test.YtdkpilgelgjieaaGreatG19
import Derived.Test.YtdkpilgelgjieaaGreatG24
import Derived.Test.YtdkpilgelgjieaaGreatG00
set_option linter.unusedVariables false
set_option maxRecDepth 100000
namespace Go.Proofs.YtdkpilgelgjieaaGreat.Ni
open Go.RowKit
theorem Zsh {b : List Int} (h : 0 < b.length) : (nib b).getD 0 0 = b.getD 0 0 / 16 /\ (nib b).getD 1 0 = b.getD 0 0 % 16 := by
 cases b with
 | nil => simp at h
 | cons c r => exact ⟨rfl, rfl⟩
theorem ag_drop {w : World} {g off n c k : Nat} {bs : List Int} (h : Ag w (some ⟨g, off, none⟩) n c bs) (hk : k < n) : Ag w (some ⟨g, off + k, none⟩) (n - k) (c - k) (bs.drop k) := by
 have hl := h.l
 rcases h.i with ⟨h0, _⟩ | ⟨gb, off', h1, h2, h3, h4, h5, h7⟩
 ·omega
 ·injection h1 with h1
  injection h1 with e1 e2
  subst e1 e2
  refine ⟨.inr ⟨g, off + k, rfl, by rw [List.length_drop]; omega, by omega, by omega, by omega, fun j hj => ?_⟩, (fun h => by cases h), by rw [List.length_drop]; omega, Zoy h.b k⟩
  rw [List.length_drop] at hj
  rw [Zmm, Nat.add_assoc]
  exact h7 (k + j) (by omega)
theorem Zhr (w : World) (a : Option Addr) (c : Nat) (h : a = none -> c = 0) : Ag w a 0 c [] := ⟨.inl ⟨rfl, rfl⟩, fun e => ⟨rfl, h e⟩, rfl, fun x hx => by cases hx⟩
set_option maxHeartbeats 2000000 in
theorem runpack_any (a : Option Addr) (n c : Nat) (b : List Int) (w : World) (h : Ag w a n c b) (hn : 2 * n <= 140737488355328) :
  Calls Tryz.prog 115 #[.slice a n c] w fun e w' => (∃ a' m c', e = .returned (.tuple #[.slice a' m c', .bool (unpP b).2.1, .int .i64 ((unpP b).2.2 : Nat)]) /\ Ag w' a' m c' (unpP b).1 /\ (∀ g off, a' = some ⟨g, off, none⟩ -> 0 < m -> w.heap.size <= g)) /\ Below w.heap.size w w' := by
 have hl := h.l
 have hof := rof_any a n c b w h hn
 by_cases h0 : n = 0
 ·subst h0
  have e : b = [] := List.eq_nil_of_length_eq_zero hl
  subst e
  rw [Zq9]
  simp only
  have HOF := Hid.mk hof
  clear h hl hof
  go_enter Tryz.func115, Tryz.ntmps115
  go_wp2_with fail
  refine HOF.out.mono ?_
  rintro e w1 ⟨⟨a1, c1, rfl, _, _, _, _⟩, hb⟩
  rw [Nat.mul_zero]
  have HB := Hid.mk hb
  clear hb
  go_wp2_with fail
  go_ret3
  exact ⟨⟨none, 0, 0, rfl, ag_nil _, fun g off h => by cases h⟩, HB.out⟩
 have hx := h.b _ (getD_mem (l := b) (i := 0) (by omega))
 have hbad := Zra (b := b) (by omega)
 have hgood := Zn4 (b := b) (by omega)
 obtain ⟨e0, e1⟩ := Zsh (b := b) (by omega)
 generalize b.getD 0 0 = x at *
 obtain ⟨hx0, hx1⟩ := hx
 obtain ⟨f, hf⟩ : ∃ f, x / 16 = f := ⟨_, rfl⟩
 obtain ⟨s, hs⟩ : ∃ s, x % 16 = s := ⟨_, rfl⟩
 have hxs : badU x ↔ (f > 3 \/ (f % 2 = 0 /\ s ≠ 0)) := by unfold badU; rw [hf, hs]
 rw [hf] at e0 hgood
 rw [hs] at e1
 have hf0 : 0 <= f := by omega
 have hf1 : f <= 15 := by omega
 have hs0 : 0 <= s := by omega
 have hs1 : s <= 15 := by omega
 obtain ⟨N, hN⟩ : ∃ N, nib b = N := ⟨_, rfl⟩
 rw [hN] at e0 e1 hof hgood
 clear hf hs hx0 hx1 hN
 obtain ⟨M, hM⟩ : ∃ M, 2 * n = M := ⟨_, rfl⟩
 have hM2 : 2 <= M := by omega
 rw [hM] at hof hn
 have HOF := Hid.mk hof
 have hMi : ((M : Int) == 0) = false := by rw [beq_eq_false_iff_ne]; omega
 have hMi0 : (0 : Int) < M := by omega
 have hMi1 : (1 : Int) < M := by omega
 clear h hl hof hM h0
 have hstep : ∀ (g off c1 : Nat) (w1 : World), Ag w1 (some ⟨g, off, none⟩) M c1 N -> w1.cell? ⟨g, off, none⟩ = some (.int .u8 f) /\ w1.cell? ⟨g, off + 1, none⟩ = some (.int .u8 s) := by
  intro g off c1 w1 hag
  obtain ⟨g', off', h1, h2, h3, h4⟩ := ag_head hag (by omega)
  injection h1 with h1
  injection h1 with e2 e3
  subst e2 e3
  have h5 := h4 0 (by omega)
  have h6 := h4 1 (by omega)
  rw [e0, Nat.add_zero] at h5
  rw [e1] at h6
  exact ⟨h5, h6⟩
 have HST := Hid.mk hstep
 clear hstep e0 e1
 have hsome : ∀ (a1 : Option Addr) (c1 : Nat) (w1 : World), Ag w1 a1 M c1 N -> ∃ g off, a1 = some ⟨g, off, none⟩ := by
  intro a1 c1 w1 hag
  obtain ⟨g', off', h1, _⟩ := ag_head hag (by omega)
  exact ⟨g', off', h1⟩
 have HSM := Hid.mk hsome
 clear hsome
 by_cases h3 : f > 3
 ·rw [hbad (hxs.2 (.inl h3))]
  simp only
  clear hbad hgood hxs
  go_enter Tryz.func115, Tryz.ntmps115
  go_wp2_with fail
  refine HOF.out.mono ?_
  rintro e w1 ⟨⟨a1, c1, rfl, hc1, hc2, hag, hnw⟩, hb⟩
  obtain ⟨g, off, rfl⟩ := HSM.out _ _ _ hag
  have HNW := Hid.mk (show w.heap.size <= g from hnw (by omega) g off rfl)
  clear hnw
  obtain ⟨z0, z1⟩ := HST.out _ _ _ _ hag
  unfold maxLen at hc2
  have HB := Hid.mk hb
  clear hb hag
  go_wp2_with fail
  go_ret3
  exact ⟨⟨none, 0, 0, rfl, ag_nil _, fun g off h => by cases h⟩, HB.out⟩
 have hf4 : f = 0 \/ f = 1 \/ f = 2 \/ f = 3 := by omega
 clear h3 hf0 hf1
 rcases hf4 with rfl | rfl | rfl | rfl
 ·
  by_cases hs : s = 0
  ·
   subst hs
   rw [hgood (fun hb => by have := hxs.1 hb; omega), if_pos (by omega)]
   simp only
   rw [decide_eq_false (by omega)]
   clear hbad hgood hxs
   go_enter Tryz.func115, Tryz.ntmps115
   go_wp2_with fail
   refine HOF.out.mono ?_
   rintro e w1 ⟨⟨a1, c1, rfl, hc1, hc2, hag, hnw⟩, hb⟩
   obtain ⟨g, off, rfl⟩ := HSM.out _ _ _ hag
   have HNW := Hid.mk (show w.heap.size <= g from hnw (by omega) g off rfl)
   clear hnw
   obtain ⟨z0, z1⟩ := HST.out _ _ _ _ hag
   unfold maxLen at hc2
   have HB := Hid.mk hb
   have HAG := Hid.mk hag
   have hci : (2 : Int) <= c1 := by omega
   have hcm : (M : Int) <= c1 := by omega
   have hmm : (2 : Int) <= M := by omega
   clear hb hag
   by_cases hcf : c1 = 2
   ·have hM3 : M = 2 := by omega
    subst hM3
    subst hcf
    have HNN : Hid (N.drop 2 = []) := Hid.mk (List.drop_of_length_le (by rw [HAG.out.l]; exact Nat.le_refl _))
    go_wp2_with fail
    go_region
    all_goals
     go_wp2_with fail
     go_ret3
     exact ⟨⟨_, _, _, rfl, by rw [HNN.out]; exact Zhr _ _ _ (fun _ => rfl), fun g off h => by first | (cases h; done) | (intro _; cases h; exact HNW.out)⟩, HB.out.drew⟩
   ·by_cases hM3 : M = 2
    ·subst hM3
     have HNN : Hid (N.drop 2 = []) := Hid.mk (List.drop_of_length_le (by rw [HAG.out.l]; exact Nat.le_refl _))
     go_wp2_with fail
     go_region
     all_goals
      go_wp2_with fail
      go_ret3
      exact ⟨⟨_, _, _, rfl, by rw [HNN.out]; exact Zhr _ _ _ (fun h => by cases h), fun g off h _ => by cases h; exact HNW.out⟩, HB.out.drew⟩
    ·go_wp2_with fail
     go_region
     all_goals
      go_wp2_with fail
      go_ret3
      exact ⟨⟨_, _, _, rfl, (ag_drop HAG.out (k := 2) (by omega)).drewN, fun g off h _ => by cases h; exact HNW.out⟩, HB.out.drew⟩
  ·
   rw [hbad (hxs.2 (.inr ⟨by omega, hs⟩))]
   simp only
   clear hbad hgood hxs
   have hsb : (s != 0) = true := by rw [bne_iff_ne]; exact hs
   clear hs
   go_enter Tryz.func115, Tryz.ntmps115
   go_wp2_with fail
   refine HOF.out.mono ?_
   rintro e w1 ⟨⟨a1, c1, rfl, hc1, hc2, hag, hnw⟩, hb⟩
   obtain ⟨g, off, rfl⟩ := HSM.out _ _ _ hag
   have HNW := Hid.mk (show w.heap.size <= g from hnw (by omega) g off rfl)
   clear hnw
   obtain ⟨z0, z1⟩ := HST.out _ _ _ _ hag
   unfold maxLen at hc2
   have HB := Hid.mk hb
   clear hb hag
   go_wp2_with fail
   go_ret3
   exact ⟨⟨none, 0, 0, rfl, ag_nil _, fun g off h => by cases h⟩, HB.out⟩
 ·
  rw [hgood (fun hb => by have := hxs.1 hb; omega), if_neg (by omega)]
  simp only
  rw [decide_eq_false (by omega)]
  clear hbad hgood hxs
  go_enter Tryz.func115, Tryz.ntmps115
  go_wp2_with fail
  refine HOF.out.mono ?_
  rintro e w1 ⟨⟨a1, c1, rfl, hc1, hc2, hag, hnw⟩, hb⟩
  obtain ⟨g, off, rfl⟩ := HSM.out _ _ _ hag
  have HNW := Hid.mk (show w.heap.size <= g from hnw (by omega) g off rfl)
  clear hnw
  obtain ⟨z0, z1⟩ := HST.out _ _ _ _ hag
  unfold maxLen at hc2
  have HB := Hid.mk hb
  have HAG := Hid.mk hag
  have hci : (1 : Int) <= c1 := by omega
  have hcm : (M : Int) <= c1 := by omega
  have hmm : (1 : Int) <= M := by omega
  have hcf : ¬ c1 = 1 := by omega
  clear hb hag
  go_wp2_with fail
  go_region
  all_goals
   go_wp2_with fail
   go_ret3
   exact ⟨⟨_, _, _, rfl, (ag_drop HAG.out (k := 1) (by omega)).drewN, fun g off h _ => by cases h; exact HNW.out⟩, HB.out.drew⟩
 ·
  by_cases hs : s = 0
  ·
   subst hs
   rw [hgood (fun hb => by have := hxs.1 hb; omega), if_pos (by omega)]
   simp only
   rw [decide_eq_true (by omega)]
   clear hbad hgood hxs
   go_enter Tryz.func115, Tryz.ntmps115
   go_wp2_with fail
   refine HOF.out.mono ?_
   rintro e w1 ⟨⟨a1, c1, rfl, hc1, hc2, hag, hnw⟩, hb⟩
   obtain ⟨g, off, rfl⟩ := HSM.out _ _ _ hag
   have HNW := Hid.mk (show w.heap.size <= g from hnw (by omega) g off rfl)
   clear hnw
   obtain ⟨z0, z1⟩ := HST.out _ _ _ _ hag
   unfold maxLen at hc2
   have HB := Hid.mk hb
   have HAG := Hid.mk hag
   have hci : (2 : Int) <= c1 := by omega
   have hcm : (M : Int) <= c1 := by omega
   have hmm : (2 : Int) <= M := by omega
   clear hb hag
   by_cases hcf : c1 = 2
   ·have hM3 : M = 2 := by omega
    subst hM3
    subst hcf
    have HNN : Hid (N.drop 2 = []) := Hid.mk (List.drop_of_length_le (by rw [HAG.out.l]; exact Nat.le_refl _))
    go_wp2_with fail
    go_region
    all_goals
     go_wp2_with fail
     go_ret3
     exact ⟨⟨_, _, _, rfl, by rw [HNN.out]; exact Zhr _ _ _ (fun _ => rfl), fun g off h => by first | (cases h; done) | (intro _; cases h; exact HNW.out)⟩, HB.out.drew⟩
   ·by_cases hM3 : M = 2
    ·subst hM3
     have HNN : Hid (N.drop 2 = []) := Hid.mk (List.drop_of_length_le (by rw [HAG.out.l]; exact Nat.le_refl _))
     go_wp2_with fail
     go_region
     all_goals
      go_wp2_with fail
      go_ret3
      exact ⟨⟨_, _, _, rfl, by rw [HNN.out]; exact Zhr _ _ _ (fun h => by cases h), fun g off h _ => by cases h; exact HNW.out⟩, HB.out.drew⟩
    ·go_wp2_with fail
     go_region
     all_goals
      go_wp2_with fail
      go_ret3
      exact ⟨⟨_, _, _, rfl, (ag_drop HAG.out (k := 2) (by omega)).drewN, fun g off h _ => by cases h; exact HNW.out⟩, HB.out.drew⟩
  ·
   rw [hbad (hxs.2 (.inr ⟨by omega, hs⟩))]
   simp only
   clear hbad hgood hxs
   have hsb : (s != 0) = true := by rw [bne_iff_ne]; exact hs
   clear hs
   go_enter Tryz.func115, Tryz.ntmps115
   go_wp2_with fail
   refine HOF.out.mono ?_
   rintro e w1 ⟨⟨a1, c1, rfl, hc1, hc2, hag, hnw⟩, hb⟩
   obtain ⟨g, off, rfl⟩ := HSM.out _ _ _ hag
   have HNW := Hid.mk (show w.heap.size <= g from hnw (by omega) g off rfl)
   clear hnw
   obtain ⟨z0, z1⟩ := HST.out _ _ _ _ hag
   unfold maxLen at hc2
   have HB := Hid.mk hb
   clear hb hag
   go_wp2_with fail
   go_ret3
   exact ⟨⟨none, 0, 0, rfl, ag_nil _, fun g off h => by cases h⟩, HB.out⟩
 ·
  rw [hgood (fun hb => by have := hxs.1 hb; omega), if_neg (by omega)]
  simp only
  rw [decide_eq_true (by omega)]
  clear hbad hgood hxs
  go_enter Tryz.func115, Tryz.ntmps115
  go_wp2_with fail
  refine HOF.out.mono ?_
  rintro e w1 ⟨⟨a1, c1, rfl, hc1, hc2, hag, hnw⟩, hb⟩
  obtain ⟨g, off, rfl⟩ := HSM.out _ _ _ hag
  have HNW := Hid.mk (show w.heap.size <= g from hnw (by omega) g off rfl)
  clear hnw
  obtain ⟨z0, z1⟩ := HST.out _ _ _ _ hag
  unfold maxLen at hc2
  have HB := Hid.mk hb
  have HAG := Hid.mk hag
  have hci : (1 : Int) <= c1 := by omega
  have hcm : (M : Int) <= c1 := by omega
  have hmm : (1 : Int) <= M := by omega
  have hcf : ¬ c1 = 1 := by omega
  clear hb hag
  go_wp2_with fail
  go_region
  all_goals
   go_wp2_with fail
   go_ret3
   exact ⟨⟨_, _, _, rfl, (ag_drop HAG.out (k := 1) (by omega)).drewN, fun g off h _ => by cases h; exact HNW.out⟩, HB.out.drew⟩
end Go.Proofs.YtdkpilgelgjieaaGreat.Ni
namespace Go.Proofs.YtdkpilgelgjieaaGreat
open Go.RowKit
open Ni (unpP)
structure De (w1 v : World) (y : V) (x : NV) : Prop where
 ib : B1 w1.heap.size v y
 nb : NBx (w1.heap.size + 1) v x
 bel : Below w1.heap.size w1 v
 sz : w1.heap.size + 2 <= v.heap.size
theorem De.go {w1 v v' : World} {y : V} {x : NV} (h : De w1 v y x) (hb : Below v.heap.size v v') : De w1 v' y x := ⟨h.ib.go hb, h.nb.go hb, below_go h.bel hb, Nat.le_trans h.sz hb.size⟩
theorem De.setRow {w1 v : World} {y : V} {x : NV} (h : De w1 v y x) (x' : NV) (hl : x'.c.d.length = 32) : De w1 (v.setRow (w1.heap.size + 1) x'.cells.toArray) y x' :=
 ⟨Zb2 h.ib (by omega), ⟨setRow_heap _ _ _ _ _ _ h.nb.row, hl⟩, Below.setRow h.bel (by omega) _, by simpa using h.sz⟩
theorem De.drew {w1 v : World} {y : V} {x : NV} (h : De w1 v y x) : De w1 v.drew y x := h.go (Below.refl _ _).drew
theorem De.above {w1 v v' : World} {y : V} {x : NV} (h : De w1 v y x) (hb : Below (w1.heap.size + 2) v v') : De w1 v' y x :=
 ⟨⟨(World.cell?_of_block (w := v) (hb.block w1.heap.size (by omega))).trans h.ib.c0, (World.cell?_of_block (w := v) (hb.block w1.heap.size (by omega))).trans h.ib.c1, (World.cell?_of_block (w := v) (hb.block w1.heap.size (by omega))).trans h.ib.c2⟩, ⟨(hb.block _ (by omega)).trans h.nb.row, h.nb.l⟩,
  h.bel.trans (hb.mono (by omega)), Nat.le_trans h.sz hb.size⟩
theorem Zqg {x : NV} (hl : x.c.d.length = 32) (ka : Option Addr) (kn kc : Nat) : x.cells.toArray.setIfInBounds 37 (.slice ka kn kc) = (NV.cells { x with ka := ka, kn := kn, kc := kc }).toArray := by
 rw [List.setIfInBounds_toArray]
 congr 1
 rw [NV.cells, NV.cells, show (37 : Nat) = 34 + 1 + 1 + 1 from rfl, List.set_cons_succ, List.set_cons_succ, List.set_cons_succ, List.set_append_right _ _ (by rw [RV.len hl]; omega), RV.len hl]
 rfl
theorem De.put {w1 v : World} {y : V} {x : NV} (h : De w1 v y x) (ka : Option Addr) (kn kc : Nat) : De w1 (v.setCell ⟨w1.heap.size + 1, 37, none⟩ (.slice ka kn kc)) y { x with ka := ka, kn := kn, kc := kc } := by
 have ho : ∀ k, k ≠ w1.heap.size + 1 -> (v.setCell ⟨w1.heap.size + 1, 37, none⟩ (.slice ka kn kc)).heap[k]? = v.heap[k]? := fun k hk => heap_setCell_other _ _ _ _ hk
 refine ⟨⟨(World.cell?_of_block (w := v) (ho w1.heap.size (by omega))).trans h.ib.c0, (World.cell?_of_block (w := v) (ho w1.heap.size (by omega))).trans h.ib.c1, (World.cell?_of_block (w := v) (ho w1.heap.size (by omega))).trans h.ib.c2⟩, ⟨?_, h.nb.l⟩, h.bel.setCell (by show w1.heap.size <= w1.heap.size + 1; omega) _, by simpa using h.sz⟩
 rw [heap_setCell_same v (w1.heap.size + 1) 37 _ 104 (.slice ka kn kc) h.nb.row, Zqg h.nb.l]
theorem Zqu : (fun (va : Option Addr) (vn vc : Nat) => Tryz.prog.built 104 [(0, .int .i64 3), (2, .slice va vn vc)]) = fun va vn vc => some (NV.cells ⟨3, none, 0, 0, va, vn, vc, rz, none, 0, 0⟩).toArray := by kernel_rfl
theorem Zmt (va : Option Addr) (vn vc : Nat) : Tryz.prog.built 104 [(0, .int .i64 3), (2, .slice va vn vc)] = some (NV.cells ⟨3, none, 0, 0, va, vn, vc, rz, none, 0, 0⟩).toArray := congrFun (congrFun (congrFun Zqu va) vn) vc
theorem Zsd {x y : NV} (hx : x.c.d.length = 32) (hy : y.c.d.length = 32) : x.cells.toArray.size = y.cells.toArray.size := by rw [List.size_toArray, List.size_toArray, NV.len hx, NV.len hy]
section
variable {a : Act} {w : World}
theorem Zf8 {x y : Operand} {o : Oper} (ho : o.op = .store 102 x y) (g : Nat) (ia : Option Addr) (m ic : Nat) (old : Value) (hx : a.eval x = .pointer (some ⟨g, 37, none⟩)) (hy : a.eval y = .slice ia m ic) (hc : w.cell? ⟨g, 37, none⟩ = some old) (hf : ∀ o, w.frozen? ⟨g, o, none⟩ = false) :
  (execOp a.eval o).run Tryz.prog w = .ok .skip (w.setCell ⟨g, 37, none⟩ (.slice ia m ic)) := by
 unfold execOp
 rw [ho]
 simp only [hx, hy]
 go_simp
end
theorem Zlh {its : List T} {j : Nat} {t : T} (h : its[j]? = some t) : (its.take (j + 1)).map drefP = (its.take j).map drefP ++ [drefP t] := by
 rw [Zbq h, List.map_append]
 rfl
theorem Zek {w : World} {r : PR} {e : Ending} {w' : World} (h : DRPost w r e w') : ∃ v, e = .returned v /\ (Below w.heap.size w w' /\ ∃ y : RV, v = .agg y.cells.toArray /\ RefAt (fun b => w.heap.size <= b) w' y r) := by
 obtain ⟨⟨y, e1, hy⟩, hb⟩ := h
 exact ⟨_, e1, hb, y, rfl, hy.go fun g hg _ => ⟨rfl, Nat.le_of_lt hg⟩⟩
set_option maxHeartbeats 16000000 in
theorem Zmn (b : List Int) (hr : ∀ i, i.length < b.length -> DDSaid i) : DDSaid b := by
 intro a n c w hag hn
 have hbB : isB b := hag.b
 have HREC := Hid.mk hr
 have HAG := Hid.mk hag
 have HBB := Hid.mk hbB
 obtain ⟨res, hres⟩ : ∃ res, ND b = res := ⟨_, rfl⟩
 rw [hres]
 have HRES := Hid.mk hres
 have HDD0 := Hid.mk (Zwv w)
 clear hag hr hres hbB
 go_enter Tryz.func106, Tryz.ntmps106
 go_upto_region 1 with fail
 refine gen_w (p := fun v => Code.wp _ _ _ _ v) (q := fun v => Dd w v) HDD0.out ?_
 clear HDD0
 intro v D0
 have HD0 := Hid.mk D0
 have HCD := Hid.mk (Zid a n c b v (HAG.out.at D0.bel) hn)
 clear D0
 go_wp2_with fail
 refine HCD.out.mono ?_
 intro e w1 hp
 obtain ⟨hb1, hp⟩ := hp
 have HD1 := Hid.mk (HD0.out.go hb1)
 have HV0 := Hid.mk HD0.out.sz
 cases hq : decP b with
 | bad er =>
  rw [hq] at hp
  have hr := HRES.out
  rw [Zz5 HBB.out hq] at hr
  subst hr
  obtain ⟨rfl, her⟩ := hp
  have hee : ((er : Int) != 0) = true := by rw [bne_iff_ne]; omega
  clear hb1 hq her
  go_upto_region 2 with fail
  refine gen_w (p := fun v => Code.wp _ _ _ _ v) (q := fun v => Dd w v) (HD1.out.go (below_new w1 _)) ?_
  intro v2 D2
  have HD2 := Hid.mk D2
  clear D2
  go_upto_region 3 with fail
  go_wp2_with (first | refine wpList_store_row rfl 104 _ _ rfl _ nz.cells.toArray rfl rfl 104 _ HD2.out.row (Zbe rfl) (Za6 rfl) (all_oneCell_toArray (NV.one _)) ?_)
  refine bodyPost_ret (Zaq Tryz.results106 _ _ w.heap.size nz rfl rfl (setRow_heap _ _ _ _ _ _ HD2.out.row)) rfl ?_
  exact ⟨Below.setRow HD2.out.bel (Nat.le_refl _) _, rfl⟩
 | ok t =>
  rw [hq] at hp
  obtain ⟨y, rfl, hy⟩ := hp
  have HLY := Hid.mk (show LiesP (fun b => w.heap.size + 1 <= b) w1 t y from Zak (fun b hb hlt => ⟨rfl, by have := HV0.out; omega⟩) _ _ hy)
  have HQ := Hid.mk hq
  have HSM := Hid.mk (Zlj HBB.out hq)
  clear hb1 hq hy HV0 HD0 HCD
  go_upto_region 2 with fail
  refine gen_w (p := fun v => Code.wp _ _ _ _ v) (q := fun v => B1 w1.heap.size v y /\ Below w1.heap.size w1 v /\ v.heap.size = w1.heap.size + 1) ⟨Zcy w1 y, below_new w1 _, by simp⟩ ?_
  rintro v2 ⟨B2, hb2, hs2⟩
  have HB2 := Hid.mk B2
  have HBL := Hid.mk hb2
  have HS2 := Hid.mk hs2
  clear B2 hb2 hs2
  obtain ⟨its, hits⟩ : ∃ its, t.its = its := ⟨_, rfl⟩
  have hpar : y.m = its.length /\ y.m <= y.ic /\ y.ic <= maxLen /\ LiesPAll (fun b => w.heap.size + 1 <= b) w1 its y.ia 0 := by
   obtain ⟨l, bs, its'⟩ := t
   have e : its' = its := hits
   subst e
   obtain ⟨⟨hl, -, hm, hmc, hcm, -⟩, hall⟩ := liesP_eq.1 HLY.out
   exact ⟨hm, hmc, hcm, hall⟩
  obtain ⟨hm, hmc, hcm, hall⟩ := hpar
  unfold maxLen at hcm
  rw [hits] at HSM
  have HITS := Hid.mk hits
  have HM := Hid.mk hm
  have HALL := Hid.mk hall
  clear hits hm hall
  by_cases h2 : y.m = 2
  ·have hl2 : its.length = 2 := by rw [<- HM.out, h2]
   have c2 := HB2.out.c2
   rw [h2] at c2
   obtain ⟨g, off, y0, A0⟩ := Zbu HALL.out 0 (its.getD 0 t0) (by rw [List.getD, List.getElem?_eq_getElem (by omega)]; rfl)
   obtain ⟨g1, off1, y1, A1⟩ := Zbu HALL.out 1 (its.getD 1 t0) (by rw [List.getD, List.getElem?_eq_getElem (by omega)]; rfl)
   have ha := A1.ha
   rw [A0.ha] at ha
   cases ha
   have HX0 := Hid.mk (HSM.out _ (Zdt (l := its) (i := 0) (by omega)))
   rw [A0.ha] at c2
   have HIA := Hid.mk A0.ha
   have HA0 := Hid.mk A0
   have HA1 := Hid.mk A1
   have HND := Hid.mk (show ddNode t = (if (unpP (its.getD 0 t0).bs).2.1 = true then ⟨1, (unpP (its.getD 0 t0).bs).1, (its.getD 1 t0).bs, r0, []⟩ else ⟨2, (unpP (its.getD 0 t0).bs).1, [], drefP (its.getD 1 t0), []⟩) from by unfold ddNode; rw [HITS.out, if_pos hl2])
   generalize its.getD 0 t0 = tt0 at HA0 HX0 HND
   generalize its.getD 1 t0 = tt1 at HA1 HND
   have H2 := Hid.mk h2
   clear hl2 A0 A1 h2 hmc
   go_upto_region 4 with fail
   rename_i KK hkk
   refine wp_region_lit <| Zal 33 (.pointer (some ⟨w1.heap.size, 2, none⟩)) rfl (by kernel_rfl) (by kernel_rfl) <| Zal 34 (.slice (some ⟨g, off, none⟩) 2 y.ic) rfl (by kernel_rfl) (Zbh rfl (by kernel_rfl) c2) <| Zal 35 (.pointer (some ⟨w1.heap.size, 2, none⟩)) rfl (by kernel_rfl) (by kernel_rfl) <| Zal 36 (.slice (some ⟨g, off, none⟩) 2 y.ic) rfl (by kernel_rfl) (Zbh rfl (by kernel_rfl) c2) <| Zal 37 (.int .i64 2) rfl (by kernel_rfl) (by kernel_rfl) <| Zal 38 (.int .i64 1) rfl (by kernel_rfl) (by kernel_rfl) <| Zal 39 (.pointer (some ⟨g, off + (0 + 1) * 3, none⟩)) rfl (by kernel_rfl) (Zcz (j := 0 + 1) (m := 2) (c := y.ic) rfl (by kernel_rfl) (by kernel_rfl) (by omega)) <| Zal 40 (.pointer (some ⟨g, off + (0 + 1) * 3 + 1, none⟩)) rfl (by kernel_rfl) (by kernel_rfl) <| Zal 41 (.slice y1.ba y1.bn y1.bc) rfl (by kernel_rfl) (Zd1 rfl (by kernel_rfl) (Zae HBL.out HA1.out.c1)) <| Zal 42 (.agg (NV.cells ⟨3, none, 0, 0, y1.ba, y1.bn, y1.bc, rz, none, 0, 0⟩).toArray) rfl (by kernel_rfl) (Zb9 104 _ rfl [(0, .int .i64 3), (2, .slice y1.ba y1.bn y1.bc)] (by kernel_rfl) _ (Zmt _ _ _)) <| Zn2 6 (.pointer (some ⟨w1.heap.size + 1, 0, none⟩)) rfl (by kernel_rfl) ((Zfn rfl).trans (by rw [HS2.out])) ?_
   refine Zdy rfl (by kernel_rfl) (Zbs 104 _ _ rfl (w1.heap.size + 1) (NV.cells ⟨3, none, 0, 0, y1.ba, y1.bn, y1.bc, rz, none, 0, 0⟩).toArray (by kernel_rfl) (by kernel_rfl) 104 nz.cells.toArray (by rw [<- HS2.out]; exact heap_alloc_new _ _) (Zbe rfl) (Za6 rfl) (all_oneCell_toArray (NV.one _))) <| hkk _ _ ?_
   go_frame
   refine gen_w (p := fun v => Code.wp _ _ _ _ v) (q := fun v => De w1 v y ⟨3, none, 0, 0, y1.ba, y1.bn, y1.bc, rz, none, 0, 0⟩) (by
    have e := De.setRow (w1 := w1) (v := v2.alloc (.cells nz.cells.toArray 104)) (y := y) (x := nz) ⟨HB2.out.alloc _, ⟨by rw [<- HS2.out]; exact heap_alloc_new _ _, rfl⟩, below_go HBL.out (below_new _ _), by simp [HS2.out]⟩ ⟨3, none, 0, 0, y1.ba, y1.bn, y1.bc, rz, none, 0, 0⟩ rfl
    exact e) ?_
   intro v4 D4
   have HD4 := Hid.mk D4
   clear D4 hkk c2
   have c2 := HD4.out.ib.c2
   rw [HIA.out, H2.out] at c2
   have hag0 : Ag w1 y0.ba y0.bn y0.bc tt0.bs := by obtain ⟨l, bs, its'⟩ := tt0; exact (lies_eq.1 (Zbg _ _ HA0.out.li)).2.1
   have HU := Hid.mk (Ni.runpack_any y0.ba y0.bn y0.bc tt0.bs v4 (hag0.at HD4.out.bel) (by have := hag0.l; have := HX0.out; omega))
   have HPL := Hid.mk (Ni.unp_le tt0.bs)
   have hy0n : tt0.bs.length = y0.bn := hag0.l
   have HY0N := Hid.mk hy0n
   clear hag0 hy0n
   obtain ⟨pp, hpp⟩ : ∃ pp, (unpP tt0.bs).1 = pp := ⟨_, rfl⟩
   obtain ⟨lf, hlf⟩ : ∃ lf, (unpP tt0.bs).2.1 = lf := ⟨_, rfl⟩
   obtain ⟨er, her⟩ : ∃ er, (unpP tt0.bs).2.2 = er := ⟨_, rfl⟩
   rw [hpp, hlf, her] at HU
   rw [hpp] at HPL
   rw [hpp, hlf] at HND
   clear hpp hlf her
   go_upto_region 6 with fail
   rename_i KK hkk
   refine wp_region_lit <| Zal 48 (.pointer (some ⟨w1.heap.size, 2, none⟩)) rfl (by kernel_rfl) (by kernel_rfl) <| Zal 49 (.slice (some ⟨g, off, none⟩) 2 y.ic) rfl (by kernel_rfl) (Zbh rfl (by kernel_rfl) c2) <| Zal 50 (.pointer (some ⟨g, off + (0 + 0) * 3, none⟩)) rfl (by kernel_rfl) (Zcz (j := 0 + 0) (m := 2) (c := y.ic) rfl (by kernel_rfl) (by kernel_rfl) (by omega)) <| Zal 51 (.pointer (some ⟨g, off + (0 + 0) * 3 + 1, none⟩)) rfl (by kernel_rfl) (by kernel_rfl) <| Zal 52 (.slice y0.ba y0.bn y0.bc) rfl (by kernel_rfl) (Zd1 rfl (by kernel_rfl) (Zae HD4.out.bel HA0.out.c1)) <| Zkg 53 rfl (by kernel_rfl) 115 #[.slice y0.ba y0.bn y0.bc] (by kernel_rfl) (R := fun val w' => Below v4.heap.size v4 w' /\ ∃ a' m c', val = .tuple #[.slice a' m c', .bool lf, .int .i64 (er : Nat)] /\ Ag w' a' m c' pp /\ (∀ g off, a' = some ⟨g, off, none⟩ -> 0 < m -> v4.heap.size <= g)) (HU.out.mono (by rintro e w' ⟨⟨a', m, c', rfl, h1, h2⟩, h3⟩; exact ⟨_, rfl, h3, a', m, c', rfl, h1, h2⟩)) ?_
   rintro val w6 ⟨hb6, a', m, c', rfl, hag6, hnw6⟩
   refine Zal 47 (.tuple #[.slice a' m c', .bool lf, .int .i64 (er : Nat)]) rfl (by kernel_rfl) (by kernel_rfl) <| Zal 54 (.slice a' m c') rfl (by kernel_rfl) (by kernel_rfl) <| Zal 55 (.bool lf) rfl (by kernel_rfl) (by kernel_rfl) <| Zal 56 (.int .i64 (er : Nat)) rfl (by kernel_rfl) (by kernel_rfl) <| Zal 7 (.slice a' m c') rfl (by kernel_rfl) (by kernel_rfl) <| Zal 8 (.bool lf) rfl (by kernel_rfl) (by kernel_rfl) <| Zal 9 (.int .i64 (er : Nat)) rfl (by kernel_rfl) (by kernel_rfl) <| hkk _ _ ?_
   have HD6 := Hid.mk (HD4.out.go hb6)
   have HPA := Hid.mk (show AgK (fun g => w1.heap.size + 2 <= g) w6 a' m c' pp from ⟨hag6, by have := hag6.l; have := HPL.out; have := HX0.out; omega, fun g off e h0 => by have := hnw6 g off e h0; have := HD4.out.sz; omega⟩)
   clear hkk hb6 hag6 hnw6 c2 HU HD4
   have c2 := HD6.out.ib.c2
   rw [HIA.out, H2.out] at c2
   have HRF := Hid.mk (Zks tt1 y1 w6 (Zaw HD6.out.bel _ _ (Zbg _ _ HA1.out.li)))
   go_frame
   go_upto_region 7 with fail
   rename_i KK hkk
   refine wp_region_lit <| Zal 57 (.slice a' m c') rfl (by kernel_rfl) (by kernel_rfl) <| Zal 58 (.pointer (some ⟨w1.heap.size, 2, none⟩)) rfl (by kernel_rfl) (by kernel_rfl) <| Zal 59 (.slice (some ⟨g, off, none⟩) 2 y.ic) rfl (by kernel_rfl) (Zbh rfl (by kernel_rfl) c2) <| Zal 60 (.pointer (some ⟨g, off + (0 + 1) * 3, none⟩)) rfl (by kernel_rfl) (Zcz (j := 0 + 1) (m := 2) (c := y.ic) rfl (by kernel_rfl) (by kernel_rfl) (by omega)) <| Zal 61 (.agg #[.bool y1.l, .slice y1.ba y1.bn y1.bc, .slice y1.ia y1.m y1.ic]) rfl (by kernel_rfl) (Zfm rfl (by kernel_rfl) (Zae HD6.out.bel HA1.out.c0) (Zae HD6.out.bel HA1.out.c1) (Zae HD6.out.bel HA1.out.c2)) <| Zkg 62 rfl (by kernel_rfl) 116 #[.agg #[.bool y1.l, .slice y1.ba y1.bn y1.bc, .slice y1.ia y1.m y1.ic]] (by kernel_rfl) (R := fun val w' => Below w6.heap.size w6 w' /\ ∃ z : RV, val = .agg z.cells.toArray /\ RefAt (fun b => w6.heap.size <= b) w' z (drefP tt1)) (HRF.out.mono (fun e w' h => Zek h)) ?_
   rintro val w7 ⟨hb7, z, rfl, hz⟩
   have HZL := Hid.mk hz.len
   refine Zal 63 (.agg (NV.cells ⟨2, a', m, c', none, 0, 0, z, none, 0, 0⟩).toArray) rfl (by kernel_rfl) (Zb9 104 _ rfl [(0, .int .i64 2), (1, .slice a' m c'), (3, .agg z.cells.toArray)] (by kernel_rfl) _ (Zf4 _ _ _ _ HZL.out)) <| Zdy rfl (by kernel_rfl) (Zbs 104 _ _ rfl (w1.heap.size + 1) (NV.cells ⟨2, a', m, c', none, 0, 0, z, none, 0, 0⟩).toArray (by kernel_rfl) (by kernel_rfl) 104 _ (HD6.out.go hb7).nb.row (Zbe HZL.out) (Zsd (HD6.out.go hb7).nb.l HZL.out) (all_oneCell_toArray (NV.one _))) <| hkk _ _ ?_
   have HD7 := Hid.mk ((HD6.out.go hb7).setRow ⟨2, a', m, c', none, 0, 0, z, none, 0, 0⟩ hz.len)
   have hkeep : Keep (fun g => w1.heap.size + 2 <= g) (fun g => w1.heap.size + 2 <= g) w7 (w7.setRow (w1.heap.size + 1) (NV.cells ⟨2, a', m, c', none, 0, 0, z, none, 0, 0⟩).toArray) := fun k hK hk => ⟨setRow_other _ _ _ _ (by omega), hK⟩
   have HP7 := Hid.mk ((HPA.out.go (Keep.below hb7)).go hkeep)
   have HZ7 := Hid.mk (RefAt.go hkeep (hz.go (fun k hK hk => ⟨rfl, by have := HD6.out.sz; have : w6.heap.size <= k := hK; omega⟩)))
   generalize w7.setRow (w1.heap.size + 1) (NV.cells ⟨2, a', m, c', none, 0, 0, z, none, 0, 0⟩).toArray = vT at HD7 HP7 HZ7 ⊢
   clear hkk hb7 hz hkeep c2 HRF HD6 HPA
   go_frame
   have HSW := Hid.mk HD1.out.sz
   cases lf with
   | false =>
    have hnd := HND.out
    rw [if_neg (by simp)] at hnd
    obtain ⟨nn, hnn⟩ : ∃ nn : PN, nn = ⟨2, pp, [], drefP tt1, []⟩ := ⟨_, rfl⟩
    rw [<- hnn] at hnd
    clear HND
    have HND := Hid.mk hnd
    have HNA := Hid.mk (show NodeAt (fun g => w.heap.size < g) vT ⟨2, a', m, c', none, 0, 0, z, none, 0, 0⟩ nn from by
     subst hnn
     have hs := HSW.out
     exact ⟨rfl, HP7.out.go (fun k hK hk => ⟨rfl, by omega⟩), Zd7 _ _, HZ7.out.go (fun k hK hk => ⟨rfl, by omega⟩), ⟨rfl, Nat.zero_le _, Nat.zero_le _, Nat.zero_le _, fun _ => ⟨rfl, rfl⟩⟩, Zhl _ _ _⟩)
    have HDE := HD7
    clear hnd hnn HD7
    go_upto_region 14 with fail
    have HEN := Hid.mk (Zer _ ⟨2, a', m, c', none, 0, 0, z, none, 0, 0⟩ nn vT HNA.out (fun r hrr _ => HREC.out r.i (Ztj HBB.out HQ.out (by rw [HITS.out, <- HM.out]; first | exact .inl H2.out | exact .inr H17.out) r (by rw [HND.out]; exact hrr))))
    have HOK := Hid.mk HNA.out.okN
    have HXL := Hid.mk HNA.out.c.len
    go_wp2_with (first | refine Za8 rfl _ rfl (w1.heap.size + 1) rfl ⟨2, a', m, c', none, 0, 0, z, none, 0, 0⟩ HDE.out.nb ?_)
    refine HEN.out.mono ?_
    rintro e w5 ⟨⟨a5, m5, c5, rfl, hag5, -⟩, hb5⟩
    have HE5 := Hid.mk (HDE.out.go hb5)
    have HD5 := Hid.mk (HD1.out.go HE5.out.bel)
    have HN5 := Hid.mk (HNA.out.go (Keep.below hb5))
    have hr := HRES.out
    rw [Zti HBB.out HQ.out (by rw [HND.out]; exact HOK.out), HND.out] at hr
    obtain ⟨q, hqq⟩ : ∃ q, NR nn = q := ⟨_, rfl⟩
    rw [hqq] at hag5 hr ⊢
    have HQQ := Hid.mk hqq
    clear hb5 hqq HEN
    cases q with
    | false =>
     rw [if_neg (by simp)] at hr
     subst hr
     rw [if_neg (by simp)] at hag5 ⊢
     clear hag5
     go_upto_region 16 with fail
     go_wp2_with (first | refine wpList_store_row rfl 104 _ _ rfl _ nz.cells.toArray rfl rfl 104 _ HD5.out.row (Zbe rfl) (Za6 rfl) (all_oneCell_toArray (NV.one _)) ?_)
     refine bodyPost_ret (Zaq Tryz.results106 _ _ w.heap.size nz rfl rfl (setRow_heap _ _ _ _ _ _ HD5.out.row)) rfl ?_
     exact ⟨Below.setRow HD5.out.bel (Nat.le_refl _) _, rfl⟩
    | true =>
     rw [if_pos rfl] at hag5 ⊢
     have k1 := Zey hag5.i
     have k2 := Zey (HAG.out.at HD5.out.bel).i
     have HS := Hid.mk (Ni.str_beq hag5.b HBB.out)
     generalize strOfNums (NE nn) = s1 at k1 HS
     generalize strOfNums b = s2 at k2 HS
     clear hag5
     by_cases heq : NE nn = b
     ·rw [if_pos ⟨rfl, heq⟩] at hr
      subst hr
      have hss : (!s1.toList == s2.toList) = false := by rw [HS.out, decide_eq_true heq]; rfl
      clear heq
      go_upto_region 17 with fail
      go_wp2_with (first | refine Za8 rfl _ rfl (w1.heap.size + 1) rfl ⟨2, a', m, c', none, 0, 0, z, none, 0, 0⟩ HE5.out.nb ?_ | refine wpList_store_row rfl 104 _ _ rfl _ (NV.cells ⟨2, a', m, c', none, 0, 0, z, none, 0, 0⟩).toArray rfl rfl 104 _ HD5.out.row (Zbe HXL.out) (Za6 HXL.out) (all_oneCell_toArray (NV.one _)) ?_)
      refine bodyPost_ret (Zaq Tryz.results106 _ _ w.heap.size ⟨2, a', m, c', none, 0, 0, z, none, 0, 0⟩ HXL.out rfl (setRow_heap _ _ _ _ _ _ HD5.out.row)) rfl ?_
      exact ⟨Below.setRow HD5.out.bel (Nat.le_refl _) _, ⟨2, a', m, c', none, 0, 0, z, none, 0, 0⟩, rfl, HN5.out.go fun k hK hk => ⟨setRow_other _ _ _ _ (by omega), Nat.le_of_lt hK⟩⟩
     ·rw [if_neg (fun h => heq h.2)] at hr
      subst hr
      have hss : (!s1.toList == s2.toList) = true := by rw [HS.out, decide_eq_false heq]; rfl
      clear heq
      go_upto_region 16 with fail
      go_wp2_with (first | refine wpList_store_row rfl 104 _ _ rfl _ nz.cells.toArray rfl rfl 104 _ HD5.out.row (Zbe rfl) (Za6 rfl) (all_oneCell_toArray (NV.one _)) ?_)
      refine bodyPost_ret (Zaq Tryz.results106 _ _ w.heap.size nz rfl rfl (setRow_heap _ _ _ _ _ _ HD5.out.row)) rfl ?_
      exact ⟨Below.setRow HD5.out.bel (Nat.le_refl _) _, rfl⟩
   | true =>
    have hnd := HND.out
    rw [if_pos rfl] at hnd
    obtain ⟨nn, hnn⟩ : ∃ nn : PN, nn = ⟨1, pp, tt1.bs, r0, []⟩ := ⟨_, rfl⟩
    rw [<- hnn] at hnd
    clear HND
    have HND := Hid.mk hnd
    have c2 := HD7.out.ib.c2
    rw [HIA.out, H2.out] at c2
    go_upto_region 9 with fail
    rename_i K2 hkk KK2
    refine wp_region_lit <| Zal 65 (.slice a' m c') rfl (by kernel_rfl) (by kernel_rfl) <| Zal 66 (.pointer (some ⟨w1.heap.size, 2, none⟩)) rfl (by kernel_rfl) (by kernel_rfl) <| Zal 67 (.slice (some ⟨g, off, none⟩) 2 y.ic) rfl (by kernel_rfl) (Zbh rfl (by kernel_rfl) c2) <| Zal 68 (.pointer (some ⟨g, off + (0 + 1) * 3, none⟩)) rfl (by kernel_rfl) (Zcz (j := 0 + 1) (m := 2) (c := y.ic) rfl (by kernel_rfl) (by kernel_rfl) (by omega)) <| Zal 69 (.pointer (some ⟨g, off + (0 + 1) * 3 + 1, none⟩)) rfl (by kernel_rfl) (by kernel_rfl) <| Zal 70 (.slice y1.ba y1.bn y1.bc) rfl (by kernel_rfl) (Zd1 rfl (by kernel_rfl) (Zae HD7.out.bel HA1.out.c1)) <| Zal 71 (.agg (NV.cells ⟨1, a', m, c', y1.ba, y1.bn, y1.bc, rz, none, 0, 0⟩).toArray) rfl (by kernel_rfl) (Zb9 104 _ rfl [(0, .int .i64 1), (1, .slice a' m c'), (2, .slice y1.ba y1.bn y1.bc)] (by kernel_rfl) _ (Zho _ _ _ _ _ _)) <| Zdy rfl (by kernel_rfl) (Zbs 104 _ _ rfl (w1.heap.size + 1) (NV.cells ⟨1, a', m, c', y1.ba, y1.bn, y1.bc, rz, none, 0, 0⟩).toArray (by kernel_rfl) (by kernel_rfl) 104 _ HD7.out.nb.row (Zbe rfl) (Zsd HD7.out.nb.l rfl) (all_oneCell_toArray (NV.one _))) <| hkk _ _ ?_
    have HDE := Hid.mk (HD7.out.setRow ⟨1, a', m, c', y1.ba, y1.bn, y1.bc, rz, none, 0, 0⟩ rfl)
    have hkeep : Keep (fun g => w1.heap.size + 2 <= g) (fun g => w.heap.size < g) vT (vT.setRow (w1.heap.size + 1) (NV.cells ⟨1, a', m, c', y1.ba, y1.bn, y1.bc, rz, none, 0, 0⟩).toArray) := fun k hK hk => ⟨setRow_other _ _ _ _ (by omega), by have := HSW.out; omega⟩
    have hv1 : AgK (OwnP (fun b => w.heap.size + 1 <= b) w1) w1 y1.ba y1.bn y1.bc tt1.bs := by obtain ⟨l, bs, its'⟩ := tt1; exact Zfv HA1.out.li
    have HNA := Hid.mk (show NodeAt (fun g => w.heap.size < g) (vT.setRow (w1.heap.size + 1) (NV.cells ⟨1, a', m, c', y1.ba, y1.bn, y1.bc, rz, none, 0, 0⟩).toArray) ⟨1, a', m, c', y1.ba, y1.bn, y1.bc, rz, none, 0, 0⟩ nn from by
     subst hnn
     exact ⟨rfl, HP7.out.go hkeep, hv1.go (fun k hK hk => ⟨HDE.out.bel.block k hk, by have := hK.1; omega⟩), Zc1 _ _, ⟨rfl, Nat.zero_le _, Nat.zero_le _, Nat.zero_le _, fun _ => ⟨rfl, rfl⟩⟩, Zhl _ _ _⟩)
    generalize vT.setRow (w1.heap.size + 1) (NV.cells ⟨1, a', m, c', y1.ba, y1.bn, y1.bc, rz, none, 0, 0⟩).toArray = vT at HDE HNA ⊢
    clear hnd hnn HD7 hkeep hv1 hkk c2 HP7 HZ7
    go_frame
    go_upto_region 14 with fail
    have HEN := Hid.mk (Zer _ ⟨1, a', m, c', y1.ba, y1.bn, y1.bc, rz, none, 0, 0⟩ nn vT HNA.out (fun r hrr _ => HREC.out r.i (Ztj HBB.out HQ.out (by rw [HITS.out, <- HM.out]; first | exact .inl H2.out | exact .inr H17.out) r (by rw [HND.out]; exact hrr))))
    have HOK := Hid.mk HNA.out.okN
    have HXL := Hid.mk HNA.out.c.len
    go_wp2_with (first | refine Za8 rfl _ rfl (w1.heap.size + 1) rfl ⟨1, a', m, c', y1.ba, y1.bn, y1.bc, rz, none, 0, 0⟩ HDE.out.nb ?_)
    refine HEN.out.mono ?_
    rintro e w5 ⟨⟨a5, m5, c5, rfl, hag5, -⟩, hb5⟩
    have HE5 := Hid.mk (HDE.out.go hb5)
    have HD5 := Hid.mk (HD1.out.go HE5.out.bel)
    have HN5 := Hid.mk (HNA.out.go (Keep.below hb5))
    have hr := HRES.out
    rw [Zti HBB.out HQ.out (by rw [HND.out]; exact HOK.out), HND.out] at hr
    obtain ⟨q, hqq⟩ : ∃ q, NR nn = q := ⟨_, rfl⟩
    rw [hqq] at hag5 hr ⊢
    have HQQ := Hid.mk hqq
    clear hb5 hqq HEN
    cases q with
    | false =>
     rw [if_neg (by simp)] at hr
     subst hr
     rw [if_neg (by simp)] at hag5 ⊢
     clear hag5
     go_upto_region 16 with fail
     go_wp2_with (first | refine wpList_store_row rfl 104 _ _ rfl _ nz.cells.toArray rfl rfl 104 _ HD5.out.row (Zbe rfl) (Za6 rfl) (all_oneCell_toArray (NV.one _)) ?_)
     refine bodyPost_ret (Zaq Tryz.results106 _ _ w.heap.size nz rfl rfl (setRow_heap _ _ _ _ _ _ HD5.out.row)) rfl ?_
     exact ⟨Below.setRow HD5.out.bel (Nat.le_refl _) _, rfl⟩
    | true =>
     rw [if_pos rfl] at hag5 ⊢
     have k1 := Zey hag5.i
     have k2 := Zey (HAG.out.at HD5.out.bel).i
     have HS := Hid.mk (Ni.str_beq hag5.b HBB.out)
     generalize strOfNums (NE nn) = s1 at k1 HS
     generalize strOfNums b = s2 at k2 HS
     clear hag5
     by_cases heq : NE nn = b
     ·rw [if_pos ⟨rfl, heq⟩] at hr
      subst hr
      have hss : (!s1.toList == s2.toList) = false := by rw [HS.out, decide_eq_true heq]; rfl
      clear heq
      go_upto_region 17 with fail
      go_wp2_with (first | refine Za8 rfl _ rfl (w1.heap.size + 1) rfl ⟨1, a', m, c', y1.ba, y1.bn, y1.bc, rz, none, 0, 0⟩ HE5.out.nb ?_ | refine wpList_store_row rfl 104 _ _ rfl _ (NV.cells ⟨1, a', m, c', y1.ba, y1.bn, y1.bc, rz, none, 0, 0⟩).toArray rfl rfl 104 _ HD5.out.row (Zbe HXL.out) (Za6 HXL.out) (all_oneCell_toArray (NV.one _)) ?_)
      refine bodyPost_ret (Zaq Tryz.results106 _ _ w.heap.size ⟨1, a', m, c', y1.ba, y1.bn, y1.bc, rz, none, 0, 0⟩ HXL.out rfl (setRow_heap _ _ _ _ _ _ HD5.out.row)) rfl ?_
      exact ⟨Below.setRow HD5.out.bel (Nat.le_refl _) _, ⟨1, a', m, c', y1.ba, y1.bn, y1.bc, rz, none, 0, 0⟩, rfl, HN5.out.go fun k hK hk => ⟨setRow_other _ _ _ _ (by omega), Nat.le_of_lt hK⟩⟩
     ·rw [if_neg (fun h => heq h.2)] at hr
      subst hr
      have hss : (!s1.toList == s2.toList) = true := by rw [HS.out, decide_eq_false heq]; rfl
      clear heq
      go_upto_region 16 with fail
      go_wp2_with (first | refine wpList_store_row rfl 104 _ _ rfl _ nz.cells.toArray rfl rfl 104 _ HD5.out.row (Zbe rfl) (Za6 rfl) (all_oneCell_toArray (NV.one _)) ?_)
      refine bodyPost_ret (Zaq Tryz.results106 _ _ w.heap.size nz rfl rfl (setRow_heap _ _ _ _ _ _ HD5.out.row)) rfl ?_
      exact ⟨Below.setRow HD5.out.bel (Nat.le_refl _) _, rfl⟩
  ·by_cases h17 : y.m = 17
   ·have hl17 : its.length = 17 := by rw [<- HM.out, h17]
    have c2 := HB2.out.c2
    rw [h17] at c2
    obtain ⟨g, off, y1, A1⟩ := Zbu HALL.out 16 (its.getD 16 t0) (by rw [List.getD, List.getElem?_eq_getElem (by omega)]; rfl)
    rw [A1.ha] at c2
    have HIA := Hid.mk A1.ha
    have HA1 := Hid.mk A1
    have HND := Hid.mk (show ddNode t = ⟨3, [], (its.getD 16 t0).bs, r0, (its.take 16).map drefP⟩ from by unfold ddNode; rw [HITS.out, if_neg (by omega)])
    generalize its.getD 16 t0 = tt1 at HA1 HND
    have H17 := Hid.mk h17
    have HL17 := Hid.mk hl17
    clear hl17 A1 h17 h2 hmc
    go_upto_region 4 with fail
    rename_i KK hkk
    refine wp_region_lit <| Zal 33 (.pointer (some ⟨w1.heap.size, 2, none⟩)) rfl (by kernel_rfl) (by kernel_rfl) <| Zal 34 (.slice (some ⟨g, off, none⟩) 17 y.ic) rfl (by kernel_rfl) (Zbh rfl (by kernel_rfl) c2) <| Zal 35 (.pointer (some ⟨w1.heap.size, 2, none⟩)) rfl (by kernel_rfl) (by kernel_rfl) <| Zal 36 (.slice (some ⟨g, off, none⟩) 17 y.ic) rfl (by kernel_rfl) (Zbh rfl (by kernel_rfl) c2) <| Zal 37 (.int .i64 17) rfl (by kernel_rfl) (by kernel_rfl) <| Zal 38 (.int .i64 16) rfl (by kernel_rfl) (by kernel_rfl) <| Zal 39 (.pointer (some ⟨g, off + (0 + 16) * 3, none⟩)) rfl (by kernel_rfl) (Zcz (j := 0 + 16) (m := 17) (c := y.ic) rfl (by kernel_rfl) (by kernel_rfl) (by omega)) <| Zal 40 (.pointer (some ⟨g, off + (0 + 16) * 3 + 1, none⟩)) rfl (by kernel_rfl) (by kernel_rfl) <| Zal 41 (.slice y1.ba y1.bn y1.bc) rfl (by kernel_rfl) (Zd1 rfl (by kernel_rfl) (Zae HBL.out HA1.out.c1)) <| Zal 42 (.agg (NV.cells ⟨3, none, 0, 0, y1.ba, y1.bn, y1.bc, rz, none, 0, 0⟩).toArray) rfl (by kernel_rfl) (Zb9 104 _ rfl [(0, .int .i64 3), (2, .slice y1.ba y1.bn y1.bc)] (by kernel_rfl) _ (Zmt _ _ _)) <| Zn2 6 (.pointer (some ⟨w1.heap.size + 1, 0, none⟩)) rfl (by kernel_rfl) ((Zfn rfl).trans (by rw [HS2.out])) ?_
    refine Zdy rfl (by kernel_rfl) (Zbs 104 _ _ rfl (w1.heap.size + 1) (NV.cells ⟨3, none, 0, 0, y1.ba, y1.bn, y1.bc, rz, none, 0, 0⟩).toArray (by kernel_rfl) (by kernel_rfl) 104 nz.cells.toArray (by rw [<- HS2.out]; exact heap_alloc_new _ _) (Zbe rfl) (Za6 rfl) (all_oneCell_toArray (NV.one _))) <| hkk _ _ ?_
    go_frame
    refine gen_w (p := fun v => Code.wp _ _ _ _ v) (q := fun v => De w1 v y ⟨3, none, 0, 0, y1.ba, y1.bn, y1.bc, rz, none, 0, 0⟩) (by
     have e := De.setRow (w1 := w1) (v := v2.alloc (.cells nz.cells.toArray 104)) (y := y) (x := nz) ⟨HB2.out.alloc _, ⟨by rw [<- HS2.out]; exact heap_alloc_new _ _, rfl⟩, below_go HBL.out (below_new _ _), by simp [HS2.out]⟩ ⟨3, none, 0, 0, y1.ba, y1.bn, y1.bc, rz, none, 0, 0⟩ rfl
     exact e) ?_
    intro v4 D4
    have HD4 := Hid.mk D4
    clear D4 hkk c2
    have c2 := HD4.out.ib.c2
    rw [HIA.out, H17.out] at c2
    go_wp2_with fail
    go_loopw [10] (fun s10 u => ∃ (j : Nat) (ka : Option Addr) (kn kc : Nat), j <= 16 /\ s10 = .int .i64 j /\ De w1 u y ⟨3, none, 0, 0, y1.ba, y1.bn, y1.bc, rz, ka, kn, kc⟩ /\ SoR (w1.heap.size + 2) u (.slice ka kn kc) ((its.take j).map drefP)) (fun s10 _ => 16 - (intOf s10).toNat)
    case atStart => exact ⟨0, none, 0, 0, by omega, rfl, HD4.out, Zri _ _⟩
    case round =>
     obtain ⟨j, ka, kn, kc, hj, rfl, hE, hSO⟩ := hrel
     have HE := Hid.mk hE
     have HSO := Hid.mk hSO
     clear hE hSO HD4 c2
     by_cases hlt : j < 16
     ·have hji : (j : Int) < 16 := by omega
      obtain ⟨tj, htj⟩ : ∃ tj, its[j]? = some tj := ⟨_, List.getElem?_eq_getElem (by rw [HL17.out]; omega)⟩
      obtain ⟨g', off', yj, AJ⟩ := Zbu HALL.out j tj htj
      have ha := AJ.ha
      rw [HIA.out] at ha
      cases ha
      rw [Nat.zero_add] at AJ
      have HAJ := Hid.mk AJ
      clear AJ
      have HTJ := Hid.mk htj
      clear htj
      go_upto_region 13 with fail
      rename_i KK hkk
      refine wp_region_held_drew (S := fun v' => B1 w1.heap.size v' y /\ Below w1.heap.size w1 v') (by kernel_rfl) ⟨⟨HE.out.ib.c0, HE.out.ib.c1, HE.out.ib.c2⟩, HE.out.bel.drew⟩ (fun hS => ?_)
      have hE0 := HE.out.drew
      have hxia : ∀ v', B1 w1.heap.size v' y -> v'.cell? ⟨w1.heap.size, 2, none⟩ = some (.slice (some ⟨g, off, none⟩) 17 y.ic) := fun v' hv => by have := hv.c2; rwa [HIA.out, H17.out] at this
      refine Zaj 0 76 (.pointer (some ⟨w1.heap.size + 1, 37, none⟩)) rfl rfl (by kernel_rfl) (by kernel_rfl) (by kernel_rfl) (fun _ _ _ h => h) (by kernel_rfl) (fun v _ => by kernel_rfl) hS <| Zaj 2 78 (.pointer (some ⟨w1.heap.size, 2, none⟩)) rfl rfl (by kernel_rfl) (by kernel_rfl) (by kernel_rfl) (fun _ _ _ h => h) (by kernel_rfl) (fun v _ => by kernel_rfl) hS <| Zaj 3 79 (.slice (some ⟨g, off, none⟩) 17 y.ic) rfl rfl (by kernel_rfl) (by kernel_rfl) (by kernel_rfl) (fun _ _ _ h => h) (by kernel_rfl) (fun v' hv => Zbh rfl (by kernel_rfl) (hxia v' hv.1)) hS <| Zaj 4 80 (.int .i64 j) rfl rfl (by kernel_rfl) (by kernel_rfl) (by kernel_rfl) (fun _ _ _ h => h) (by kernel_rfl) (fun v _ => by kernel_rfl) hS <| Zaj 5 81 (.pointer (some ⟨g, off + j * 3, none⟩)) rfl rfl (by kernel_rfl) (by kernel_rfl) (by kernel_rfl) (fun _ _ _ h => h) (by kernel_rfl) (fun v' _ => Zcz (j := j) (m := 17) (c := y.ic) rfl (by kernel_rfl) (by kernel_rfl) (by omega)) hS <| Zaj 6 82 (.agg #[.bool yj.l, .slice yj.ba yj.bn yj.bc, .slice yj.ia yj.m yj.ic]) rfl rfl (by kernel_rfl) (by kernel_rfl) (by kernel_rfl) (fun _ _ _ h => h) (by kernel_rfl) (fun v' hv => Zfm rfl (by kernel_rfl) (Zae hv.2 HAJ.out.c0) (Zae hv.2 HAJ.out.c1) (Zae hv.2 HAJ.out.c2)) hS <| wpAnyH_ready (rs := [1, 7]) (by kernel_rfl) (by simp) ?_
      refine Zbd 1 77 (.slice ka kn kc) rfl rfl (by kernel_rfl) (Zhf rfl (by kernel_rfl) hE0.nb.c37) hS ?_ ?_
      ·refine wpAnyH_ready (rs := [7]) (by kernel_rfl) (by simp) ?_
       refine Zci 7 83 rfl rfl (by kernel_rfl) 116 #[.agg #[.bool yj.l, .slice yj.ba yj.bn yj.bc, .slice yj.ia yj.m yj.ic]] (by kernel_rfl) (R := fun val w' => Below wr.drew.heap.size wr.drew w' /\ ∃ z : RV, val = .agg z.cells.toArray /\ RefAt (fun b => wr.drew.heap.size <= b) w' z (drefP tj)) ((Zks tj yj wr.drew (Zaw hS.2 _ _ (Zbg _ _ HAJ.out.li))).mono (fun e w' h => Zek h)) (fun val w' h => ⟨hS.1.go h.1, below_go hS.2 h.1⟩) ?_ AllReadyH.nil
       rintro val u1 ⟨hb1, z, rfl, hz⟩
       have hS1 : B1 w1.heap.size u1 y /\ Below w1.heap.size w1 u1 := ⟨hS.1.go hb1, below_go hS.2 hb1⟩
       have hE1 := hE0.go hb1
       obtain ⟨v', w3, hrun, hso3, hb3⟩ := Ze7 hE0.sz (HSO.out.all (Below.refl _ _).drew) hb1 hz (by rw [List.length_map, List.length_take]; omega) 102
       have hE2 : De w1 (u1.alloc (.cells z.cells.toArray 60)) y ⟨3, none, 0, 0, y1.ba, y1.bn, y1.bc, rz, ka, kn, kc⟩ := hE1.go (below_new _ _)
       have hE3 := hE0.above hb3
       obtain ⟨ka', kc', hv', -⟩ := hso3.kids
       obtain ⟨kn', hkn⟩ : ∃ kn', (((its.take j).map drefP) ++ [drefP tj]).length = kn' := ⟨_, rfl⟩
       rw [hkn] at hv'
       have hE4 := hE3.put ka' kn' kc'
       have hSO4 : SoR (w1.heap.size + 2) (w3.setCell ⟨w1.heap.size + 1, 37, none⟩ v') v' ((its.take (j + 1)).map drefP) := by rw [Zlh HTJ.out]; exact hso3.keep fun b hb _ => heap_setCell_other _ _ _ _ (by show b ≠ w1.heap.size + 1; omega)
       subst hv'
       refine wpAnyH_ready (rs := [8]) (by kernel_rfl) (by simp) ?_
       refine Zbd 8 84 (.slice (some ⟨u1.heap.size, 0, none⟩) 1 1) rfl rfl (by kernel_rfl) (Zib rfl z hz.len (by kernel_rfl)) ⟨hE2.ib, hE2.bel⟩ ?_ AllReadyH.nil
       refine wpAnyH_ready (rs := [9]) (by kernel_rfl) (by simp) ?_
       refine Zbd 9 85 (.slice ka' kn' kc') rfl rfl (by kernel_rfl) (Zrw rfl (.slice ka kn kc) (.slice (some ⟨u1.heap.size, 0, none⟩) 1 1) (by kernel_rfl) (by kernel_rfl) hrun) ⟨hE3.ib, hE3.bel⟩ ?_ AllReadyH.nil
       refine Zaj 10 86 (.pointer (some ⟨w1.heap.size + 1, 37, none⟩)) rfl rfl (by kernel_rfl) (by kernel_rfl) (by kernel_rfl) (fun _ _ _ h => h) (by kernel_rfl) (fun v _ => by kernel_rfl) ⟨hE3.ib, hE3.bel⟩ <| wpAnyH_ready (rs := [11]) (by kernel_rfl) (by simp) ?_
       refine Zbz 11 rfl rfl (by kernel_rfl) (Zf8 rfl (w1.heap.size + 1) ka' kn' kc' _ (by kernel_rfl) (by kernel_rfl) hE3.nb.c37 hE3.nb.fz) ⟨hE4.ib, hE4.bel⟩ ?_ AllReadyH.nil
       refine wpAnyH_done (by kernel_rfl) ?_ _
       refine hkk _ _ ?_
       have HE4 := Hid.mk hE4
       have HSO4 := Hid.mk hSO4
       clear hkn hE4 hSO4 hE3 hE2 hE1 hE0 hS hS1 hso3 hb3 hrun hz hb1 hkk
       go_frame
       go_wp2_with fail
       exact ⟨⟨j + 1, ka', kn', kc', by omega, by simp, HE4.out, HSO4.out⟩, by simp [intOf]; omega⟩
      refine Zci 7 83 rfl rfl (by kernel_rfl) 116 #[.agg #[.bool yj.l, .slice yj.ba yj.bn yj.bc, .slice yj.ia yj.m yj.ic]] (by kernel_rfl) (R := fun val w' => Below wr.drew.heap.size wr.drew w' /\ ∃ z : RV, val = .agg z.cells.toArray /\ RefAt (fun b => wr.drew.heap.size <= b) w' z (drefP tj)) ((Zks tj yj wr.drew (Zaw hS.2 _ _ (Zbg _ _ HAJ.out.li))).mono (fun e w' h => Zek h)) (fun val w' h => ⟨hS.1.go h.1, below_go hS.2 h.1⟩) ?_ AllReadyH.nil
      rintro val u1 ⟨hb1, z, rfl, hz⟩
      have hS1 : B1 w1.heap.size u1 y /\ Below w1.heap.size w1 u1 := ⟨hS.1.go hb1, below_go hS.2 hb1⟩
      have hE1 := hE0.go hb1
      obtain ⟨v', w3, hrun, hso3, hb3⟩ := Ze7 hE0.sz (HSO.out.all (Below.refl _ _).drew) hb1 hz (by rw [List.length_map, List.length_take]; omega) 102
      have hE2 : De w1 (u1.alloc (.cells z.cells.toArray 60)) y ⟨3, none, 0, 0, y1.ba, y1.bn, y1.bc, rz, ka, kn, kc⟩ := hE1.go (below_new _ _)
      have hE3 := hE0.above hb3
      obtain ⟨ka', kc', hv', -⟩ := hso3.kids
      obtain ⟨kn', hkn⟩ : ∃ kn', (((its.take j).map drefP) ++ [drefP tj]).length = kn' := ⟨_, rfl⟩
      rw [hkn] at hv'
      have hE4 := hE3.put ka' kn' kc'
      have hSO4 : SoR (w1.heap.size + 2) (w3.setCell ⟨w1.heap.size + 1, 37, none⟩ v') v' ((its.take (j + 1)).map drefP) := by rw [Zlh HTJ.out]; exact hso3.keep fun b hb _ => heap_setCell_other _ _ _ _ (by show b ≠ w1.heap.size + 1; omega)
      subst hv'
      refine wpAnyH_ready (rs := [1, 8]) (by kernel_rfl) (by simp) ?_
      refine Zbd 1 77 (.slice ka kn kc) rfl rfl (by kernel_rfl) (Zhf rfl (by kernel_rfl) hE1.nb.c37) hS1 ?_ ?_
      ·refine wpAnyH_ready (rs := [8]) (by kernel_rfl) (by simp) ?_
       refine Zbd 8 84 (.slice (some ⟨u1.heap.size, 0, none⟩) 1 1) rfl rfl (by kernel_rfl) (Zib rfl z hz.len (by kernel_rfl)) ⟨hE2.ib, hE2.bel⟩ ?_ AllReadyH.nil
       refine wpAnyH_ready (rs := [9]) (by kernel_rfl) (by simp) ?_
       refine Zbd 9 85 (.slice ka' kn' kc') rfl rfl (by kernel_rfl) (Zrw rfl (.slice ka kn kc) (.slice (some ⟨u1.heap.size, 0, none⟩) 1 1) (by kernel_rfl) (by kernel_rfl) hrun) ⟨hE3.ib, hE3.bel⟩ ?_ AllReadyH.nil
       refine Zaj 10 86 (.pointer (some ⟨w1.heap.size + 1, 37, none⟩)) rfl rfl (by kernel_rfl) (by kernel_rfl) (by kernel_rfl) (fun _ _ _ h => h) (by kernel_rfl) (fun v _ => by kernel_rfl) ⟨hE3.ib, hE3.bel⟩ <| wpAnyH_ready (rs := [11]) (by kernel_rfl) (by simp) ?_
       refine Zbz 11 rfl rfl (by kernel_rfl) (Zf8 rfl (w1.heap.size + 1) ka' kn' kc' _ (by kernel_rfl) (by kernel_rfl) hE3.nb.c37 hE3.nb.fz) ⟨hE4.ib, hE4.bel⟩ ?_ AllReadyH.nil
       refine wpAnyH_done (by kernel_rfl) ?_ _
       refine hkk _ _ ?_
       have HE4 := Hid.mk hE4
       have HSO4 := Hid.mk hSO4
       clear hkn hE4 hSO4 hE3 hE2 hE1 hE0 hS hS1 hso3 hb3 hrun hz hb1 hkk
       go_frame
       go_wp2_with fail
       exact ⟨⟨j + 1, ka', kn', kc', by omega, by simp, HE4.out, HSO4.out⟩, by simp [intOf]; omega⟩
      refine Zbd 8 84 (.slice (some ⟨u1.heap.size, 0, none⟩) 1 1) rfl rfl (by kernel_rfl) (Zib rfl z hz.len (by kernel_rfl)) ⟨hE2.ib, hE2.bel⟩ ?_ AllReadyH.nil
      refine wpAnyH_ready (rs := [1]) (by kernel_rfl) (by simp) ?_
      refine Zbd 1 77 (.slice ka kn kc) rfl rfl (by kernel_rfl) (Zhf rfl (by kernel_rfl) hE2.nb.c37) ⟨hE2.ib, hE2.bel⟩ ?_ AllReadyH.nil
      refine wpAnyH_ready (rs := [9]) (by kernel_rfl) (by simp) ?_
      refine Zbd 9 85 (.slice ka' kn' kc') rfl rfl (by kernel_rfl) (Zrw rfl (.slice ka kn kc) (.slice (some ⟨u1.heap.size, 0, none⟩) 1 1) (by kernel_rfl) (by kernel_rfl) hrun) ⟨hE3.ib, hE3.bel⟩ ?_ AllReadyH.nil
      refine Zaj 10 86 (.pointer (some ⟨w1.heap.size + 1, 37, none⟩)) rfl rfl (by kernel_rfl) (by kernel_rfl) (by kernel_rfl) (fun _ _ _ h => h) (by kernel_rfl) (fun v _ => by kernel_rfl) ⟨hE3.ib, hE3.bel⟩ <| wpAnyH_ready (rs := [11]) (by kernel_rfl) (by simp) ?_
      refine Zbz 11 rfl rfl (by kernel_rfl) (Zf8 rfl (w1.heap.size + 1) ka' kn' kc' _ (by kernel_rfl) (by kernel_rfl) hE3.nb.c37 hE3.nb.fz) ⟨hE4.ib, hE4.bel⟩ ?_ AllReadyH.nil
      refine wpAnyH_done (by kernel_rfl) ?_ _
      refine hkk _ _ ?_
      have HE4 := Hid.mk hE4
      have HSO4 := Hid.mk hSO4
      clear hkn hE4 hSO4 hE3 hE2 hE1 hE0 hS hS1 hso3 hb3 hrun hz hb1 hkk
      go_frame
      go_wp2_with fail
      exact ⟨⟨j + 1, ka', kn', kc', by omega, by simp, HE4.out, HSO4.out⟩, by simp [intOf]; omega⟩
     ·have hji : ¬ (j : Int) < 16 := by omega
      have hj16 : j = 16 := by omega
      subst hj16
      obtain ⟨ka', kc', hv', hk1, hk2, hk3, hk4⟩ := HSO.out.kids
      have hkl : ((its.take 16).map drefP).length = 16 := by rw [List.length_map, List.length_take, HL17.out]; rfl
      rw [hkl] at hv' hk1 hk3
      cases hv'
      obtain ⟨nn, hnn⟩ : ∃ nn : PN, nn = ⟨3, [], tt1.bs, r0, (its.take 16).map drefP⟩ := ⟨_, rfl⟩
      have hnd := HND.out
      rw [<- hnn] at hnd
      clear HND
      have HND := Hid.mk hnd
      have HSW := Hid.mk HD1.out.sz
      have hv1 : AgK (OwnP (fun b => w.heap.size + 1 <= b) w1) w1 y1.ba y1.bn y1.bc tt1.bs := by obtain ⟨l, bs, its'⟩ := tt1; exact Zfv HA1.out.li
      have HNA := Hid.mk (show NodeAt (fun g => w.heap.size < g) wr ⟨3, none, 0, 0, y1.ba, y1.bn, y1.bc, rz, ka, 16, kc⟩ nn from by
       subst hnn
       exact ⟨rfl, Zd7 _ _, hv1.go (fun k hK hk => ⟨HE.out.bel.block k hk, by have := hK.1; omega⟩), Zc1 _ _, ⟨hkl.symm, hk1, hk2, (by show (16 : Nat) <= _; omega), fun h => (by have := (hk3 h).1; omega)⟩, hk4.go (fun k hK hk => ⟨rfl, by have := HSW.out; omega⟩)⟩)
      have HDE := HE
      have vT_ : True := trivial
      clear hk1 hk2 hk3 hk4 hkl hnd hnn hv1 HE HSO
      go_upto_region 14 with fail
      have HEN := Hid.mk (Zer _ ⟨3, none, 0, 0, y1.ba, y1.bn, y1.bc, rz, ka, 16, kc⟩ nn wr HNA.out (fun r hrr _ => HREC.out r.i (Ztj HBB.out HQ.out (by rw [HITS.out, <- HM.out]; first | exact .inl H2.out | exact .inr H17.out) r (by rw [HND.out]; exact hrr))))
      have HOK := Hid.mk HNA.out.okN
      have HXL := Hid.mk HNA.out.c.len
      go_wp2_with (first | refine Za8 rfl _ rfl (w1.heap.size + 1) rfl ⟨3, none, 0, 0, y1.ba, y1.bn, y1.bc, rz, ka, 16, kc⟩ HDE.out.nb ?_)
      refine HEN.out.mono ?_
      rintro e w5 ⟨⟨a5, m5, c5, rfl, hag5, -⟩, hb5⟩
      have HE5 := Hid.mk (HDE.out.go hb5)
      have HD5 := Hid.mk (HD1.out.go HE5.out.bel)
      have HN5 := Hid.mk (HNA.out.go (Keep.below hb5))
      have hr := HRES.out
      rw [Zti HBB.out HQ.out (by rw [HND.out]; exact HOK.out), HND.out] at hr
      obtain ⟨q, hqq⟩ : ∃ q, NR nn = q := ⟨_, rfl⟩
      rw [hqq] at hag5 hr ⊢
      have HQQ := Hid.mk hqq
      clear hb5 hqq HEN
      cases q with
      | false =>
       rw [if_neg (by simp)] at hr
       subst hr
       rw [if_neg (by simp)] at hag5 ⊢
       clear hag5
       go_upto_region 16 with fail
       go_wp2_with (first | refine wpList_store_row rfl 104 _ _ rfl _ nz.cells.toArray rfl rfl 104 _ HD5.out.row (Zbe rfl) (Za6 rfl) (all_oneCell_toArray (NV.one _)) ?_)
       refine bodyPost_ret (Zaq Tryz.results106 _ _ w.heap.size nz rfl rfl (setRow_heap _ _ _ _ _ _ HD5.out.row)) rfl ?_
       exact ⟨Below.setRow HD5.out.bel (Nat.le_refl _) _, rfl⟩
      | true =>
       rw [if_pos rfl] at hag5 ⊢
       have k1 := Zey hag5.i
       have k2 := Zey (HAG.out.at HD5.out.bel).i
       have HS := Hid.mk (Ni.str_beq hag5.b HBB.out)
       generalize strOfNums (NE nn) = s1 at k1 HS
       generalize strOfNums b = s2 at k2 HS
       clear hag5
       by_cases heq : NE nn = b
       ·rw [if_pos ⟨rfl, heq⟩] at hr
        subst hr
        have hss : (!s1.toList == s2.toList) = false := by rw [HS.out, decide_eq_true heq]; rfl
        clear heq
        go_upto_region 17 with fail
        go_wp2_with (first | refine Za8 rfl _ rfl (w1.heap.size + 1) rfl ⟨3, none, 0, 0, y1.ba, y1.bn, y1.bc, rz, ka, 16, kc⟩ HE5.out.nb ?_ | refine wpList_store_row rfl 104 _ _ rfl _ (NV.cells ⟨3, none, 0, 0, y1.ba, y1.bn, y1.bc, rz, ka, 16, kc⟩).toArray rfl rfl 104 _ HD5.out.row (Zbe HXL.out) (Za6 HXL.out) (all_oneCell_toArray (NV.one _)) ?_)
        refine bodyPost_ret (Zaq Tryz.results106 _ _ w.heap.size ⟨3, none, 0, 0, y1.ba, y1.bn, y1.bc, rz, ka, 16, kc⟩ HXL.out rfl (setRow_heap _ _ _ _ _ _ HD5.out.row)) rfl ?_
        exact ⟨Below.setRow HD5.out.bel (Nat.le_refl _) _, ⟨3, none, 0, 0, y1.ba, y1.bn, y1.bc, rz, ka, 16, kc⟩, rfl, HN5.out.go fun k hK hk => ⟨setRow_other _ _ _ _ (by omega), Nat.le_of_lt hK⟩⟩
       ·rw [if_neg (fun h => heq h.2)] at hr
        subst hr
        have hss : (!s1.toList == s2.toList) = true := by rw [HS.out, decide_eq_false heq]; rfl
        clear heq
        go_upto_region 16 with fail
        go_wp2_with (first | refine wpList_store_row rfl 104 _ _ rfl _ nz.cells.toArray rfl rfl 104 _ HD5.out.row (Zbe rfl) (Za6 rfl) (all_oneCell_toArray (NV.one _)) ?_)
        refine bodyPost_ret (Zaq Tryz.results106 _ _ w.heap.size nz rfl rfl (setRow_heap _ _ _ _ _ _ HD5.out.row)) rfl ?_
        exact ⟨Below.setRow HD5.out.bel (Nat.le_refl _) _, rfl⟩
   ·have hr := HRES.out
    rw [dd_no HBB.out HQ.out (by rw [HITS.out, <- HM.out]; omega)] at hr
    subst hr
    have c2 := HB2.out.c2
    have e2 : ((y.m : Int) != 2) = true := by rw [bne_iff_ne]; omega
    have e17 : ((y.m : Int) != 17) = true := by rw [bne_iff_ne]; omega
    have HD2 := Hid.mk (HD1.out.go HBL.out)
    go_wp2_with (first | refine wpList_store_row rfl 104 _ _ rfl _ nz.cells.toArray rfl rfl 104 _ HD2.out.row (Zbe rfl) (Za6 rfl) (all_oneCell_toArray (NV.one _)) ?_)
    refine bodyPost_ret (Zaq Tryz.results106 _ _ w.heap.size nz rfl rfl (setRow_heap _ _ _ _ _ _ HD2.out.row)) rfl ?_
    exact ⟨Below.setRow HD2.out.bel (Nat.le_refl _) _, rfl⟩
theorem Znv : ∀ (L : Nat) (b : List Int), b.length <= L -> DDSaid b := by
 intro L
 induction L using Nat.strongRecOn with
 | _ L ih =>
  intro b hL
  exact Zmn b fun i h1 => ih i.length (by omega) i (Nat.le_refl _)
theorem Zia (b : List Int) : DDSaid b := Znv b.length b (Nat.le_refl _)
theorem rright_any (K : Nat -> Prop) (x : NV) (n : PN) (w : World) (h : NodeAt K w x n) : Calls Tryz.prog 76 #[.agg x.cells.toArray] w fun e w' => e = .returned (.bool (NR n)) /\ Below w.heap.size w w' := Zfp K x n w h fun r _ _ => Zia r.i
theorem Zls (K : Nat -> Prop) (x : NV) (n : PN) (w : World) (h : NodeAt K w x n) : Calls Tryz.prog 65 #[.agg x.cells.toArray] w (EEPost w n) := Zer K x n w h fun r _ _ => Zia r.i
end Go.Proofs.YtdkpilgelgjieaaGreat
namespace Go.Proofs.YtdkpilgelgjieaaGreat
open Go.RowKit
open Tr
def RN8 (Z : Nat -> Prop) (w : World) (t : Tr) : Value -> World -> Prop := fun u w' => (∃ y : NV, u = .agg y.cells.toArray /\ NodeAt Z w' y (nodeP t)) /\ Bl w w'
def RB7 (w : World) (t : Tr) : Value -> World -> Prop := fun u w' => (∃ a m c, u = .slice a m c /\ Sk (fun _ => True) w' a m c (encT t) /\ m <= 65540) /\ Bl w w'
theorem Zkr {w : World} {a : Option Addr} {n c : Nat} {b : List Int} (h : Sk (fun _ => True) w a n c b) (hn : n <= 140737488351232) :
  Calls Tryz.prog 62 #[.slice a n c] w fun e w' => ∃ u, e = .returned u /\ (∃ y : RV, u = .agg y.cells.toArray /\ RefAt (Own w.heap.size w') w' y (referP b)) /\ Bl w w' :=
 (Zpx a n c b w h.ag hn).mono (fun e w' ⟨⟨y, e1, h1⟩, h2⟩ => ⟨_, e1, ⟨y, rfl, h1⟩, h2⟩)
theorem Zo9 {p : List Int} {t : Tr} {k x : List Int} {j : Nat} (h : (entsR (ext p t))[j]? = some (k, x)) : k.take p.length = p /\ p.length <= k.length := by
 have h2 : ((entsR t).map fun e => (p ++ e.1, e.2))[j]? = some (k, x) := h
 rw [List.getElem?_map] at h2
 cases hq : (entsR t)[j]? with
 | none => rw [hq] at h2; cases h2
 | some e =>
  rw [hq] at h2
  simp only [Option.map_some, Option.some.injEq, Prod.mk.injEq] at h2
  rw [<- h2.1]
  exact ⟨List.take_left, by simp⟩
theorem Zxi {Z : Nat -> Prop} {w : World} {y : NV} {t : Tr} (hne : t ≠ no) (h : NodeAt Z w y (nodeP t)) :
  Calls Tryz.prog 65 #[.agg y.cells.toArray] w fun e w' => ∃ u, e = .returned u /\ (∃ a m c z, u = .tuple #[.slice a m c, .int .i64 z] /\ Sk (fun _ => True) w' a m c (encT t) /\ m <= 65540) /\ Bl w w' :=
 (Zls _ y (nodeP t) w h).mono (fun e w' ⟨⟨a, m, c, e1, h1, _⟩, h2⟩ => ⟨_, e1, ⟨a, m, c, _, rfl, ⟨by rw [Zte hne]; unfold NEP; split <;> simp_all, fun _ _ _ => trivial⟩, by have h9 := Znj h.okN; have h8 := h1.l; unfold NEP at h9; split at h9 <;> simp_all⟩, h2⟩)
def kidR (k : Nat -> Tr) (i : Nat) : PR := if (k i).isNo then r0 else referP (encT (k i))
theorem Zdr {ρ : Operand -> Value} {w : World} {x : Operand} {o : Oper} (ho : o.op = .buildSlice 102 1 #[(0, x)]) (r : RV) (hl : r.d.length = 32) (hx : ρ x = .agg r.cells.toArray) :
  (execOp ρ o).run Tryz.prog w = .ok (.value (.slice (some ⟨w.heap.size, 0, none⟩) 1 1)) (w.alloc (.cells r.cells.toArray 60)) := by
 unfold execOp
 rw [ho]
 simp only [List.map_toArray, List.map_cons, List.map_nil, hx, Sem.run_bind, Zjl w r hl, Result.andThen_ok, Sem.run_pure]
theorem Zfr {w w' : World} {v u r : Value} {ρ : Operand -> Value} {o : Oper} (hr : ∀ ty, (Builtin.append_ #[102, 102] ty #[v, u]).run Tryz.prog w = .ok r w') (x y : Operand) (ho : o.op = .call { callee := .builtin .append, args := #[x, y], argTypes := #[102, 102] }) (hx : ρ x = v) (hy : ρ y = u) : (execOp ρ o).run Tryz.prog w = .ok (.value r) w' := by
 unfold execOp
 simp only [ho, resolve, invoke, builtin, Sem.run_bind, Sem.run_pure, Result.andThen_ok, List.map_toArray, List.map_cons, List.map_nil, hx, hy, hr]
theorem Zh8 (K : Nat -> Prop) (w : World) : RefAt K w rz r0 := ⟨rfl, rfl, fun x hx => by rw [List.mem_replicate.1 hx |>.2]; omega, rfl, ⟨.inl ⟨rfl, rfl⟩, fun _ => ⟨rfl, rfl⟩, rfl, fun x hx => by cases hx⟩, Nat.zero_le _, fun g off h => by cases h⟩
theorem Zpr (Z : Nat -> Prop) (w : World) : AgK Z w none 0 0 [] := ⟨⟨.inl ⟨rfl, rfl⟩, fun _ => ⟨rfl, rfl⟩, rfl, fun x hx => by cases hx⟩, Nat.zero_le _, fun g off h => by cases h⟩
theorem Sk.agkZ {Z : Nat -> Prop} {w : World} {a : Option Addr} {n c : Nat} {bs : List Int} (h : Sk Z w a n c bs) (hn : n <= 140737488351232) : AgK Z w a n c bs := ⟨h.ag, hn, fun g off e h0 => h.k _ e h0⟩
theorem Zef (k : Nat -> Tr) (i : Nat) : (List.range (i + 1)).map (kidR k) = (List.range i).map (kidR k) ++ [kidR k i] := by rw [List.range_succ, List.map_append]; rfl
theorem Zug {l : PList} {e : List Int × List Int} {j : Nat} (hj : l[j]? = some e) : valP [] (l.take (j + 1)) = if e.1 = [] then e.2 else valP [] (l.take j) := by
 unfold valP
 rw [List.take_add_one, hj, List.foldl_append]
 rfl
theorem Zjy (i : Int) (l : PList) : (underP i l).length <= l.length := by
 rw [<- Zgi]
 unfold withoutP
 rw [List.length_map]
 exact Zhk i l
set_option maxHeartbeats 4000000 in
theorem Zqf {K : Nat -> Prop} {w : World} {a : Option Addr} {c : Nat} {vs : List (Value × Value)} {p x : List Int} (hl : PAt K w a 1 c vs [(p, x)]) (hp : p.length <= 1000) (hx : x.length <= 256) :
  Calls Tryz.prog 37 #[.slice a 1 c] w fun e w' => ∃ u, e = .returned u /\ RB7 w (leaf p x) u w' := by
 have hB := Bl.refl w
 have h0n : 0 < 1 := by omega
 have hl1 := hl
 obtain ⟨gE, oE, a1, n1, c1, a2, n2, c2, k, y, ea, hej, hc1, hc2, hs1, hs2⟩ := hl.at h0n
 subst ea
 cases hej
 have lk := hs1.len
 have lx := hs2.len
 have hlen : ∀ (j : Nat) k x', [(p, x)][j]? = some (k, x') -> k.length <= 1000000 := by intro j k x' h; have := List.mem_of_getElem? h; simp at this; rw [this.1]; omega
 refine Za3 Tryz.func37 rfl 45 rfl ?_
 show CW _ _ _ _ _ _ _ [(0, .slice (some ⟨gE, oE, none⟩) 1 c)] _
 refine Zac <| Zaa <| rp 2 (.slice none 0 0) <| Zad <| Zab <| Zac <| Zaa <| Zb7 3 nz.cells.toArray 104 (fun _ => by kernel_rfl) (fun _ => by kernel_rfl) ?_
 intro wN gN hnN
 have hgN := hnN.hg
 have hszN := hB.size
 replace hB := hB.go hnN.below
 have hrN : Rw gN wN nz.cells.toArray 104 := hnN.row
 refine Zad <| Zab <| Zac <| Zaa <| rp 7 (.slice (some ⟨gE, oE, none⟩) 1 c) <| Za1 8 61 #[.slice (some ⟨gE, oE, none⟩) 1 c] (fun _ => by kernel_rfl) (fun _ => by kernel_rfl) (R := fun u w' => u = .int .i64 ((alikeP [(p, x)] : Nat) : Int) /\ Bl (wN) w') ((Zgn (hl.go hB) (by omega) h0n hlen).mono (fun e w' ⟨u, e1, e2, e3⟩ => ⟨u, e1, e2, e3⟩)) ?_
 rintro _ u1 ⟨rfl, hb3⟩
 replace hB := hB.go hb3
 replace hrN := hrN.go hb3
 refine rp 4 (.int .i64 ((alikeP [(p, x)] : Nat) : Int)) <| Zad <| Zab <| Zac <| Zay <| Zac <| Zaa <| rp 12 (.slice (some ⟨gE, oE, none⟩) 1 c) <| rp 13 (.int .i64 1) <| rp 14 (.bool true) <| rp 11 (.bool true) <| Zad ?_
 refine Zab <| Zan (fun _ => by kernel_rfl) <| Zcb (fun v => Bl w v) (by kernel_rfl) (hB.drew) ?_
 replace hB := hB.drew
 replace hrN := hrN.drew
 refine dt 0 15 (.slice (some ⟨gE, oE, none⟩) 1 c) (fun v hv _ => by kernel_rfl) hB <| dt 1 16 (.pointer (some ⟨gE, oE + 0 * 2, none⟩)) (fun v hv _ => Zas 65 _ _ gE oE 0 1 c 2 67 rfl (by kernel_rfl) (by kernel_rfl) h0n Tryz.underlying65 (by kernel_rfl)) hB <| dt 2 17 (.pointer (some ⟨gE, oE + 0 * 2, none⟩)) (fun v hv _ => by kernel_rfl) hB <| dt 3 18 (.slice a1 n1 c1) (fun v hv _ => Zam 32 _ _ _ _ rfl (by kernel_rfl) ((Below.cell hv (block_lt_of_cell hc1)).trans hc1) Tryz.underlying32 rfl) hB <| dt 4 19 (.slice (some ⟨gE, oE, none⟩) 1 c) (fun v hv _ => by kernel_rfl) hB <| dt 5 20 (.pointer (some ⟨gE, oE + 0 * 2, none⟩)) (fun v hv _ => Zas 65 _ _ gE oE 0 1 c 2 67 rfl (by kernel_rfl) (by kernel_rfl) h0n Tryz.underlying65 (by kernel_rfl)) hB <| dt 6 21 (.pointer (some ⟨gE, oE + 0 * 2 + 1, none⟩)) (fun v hv _ => by kernel_rfl) hB <| dt 7 22 (.slice a2 n2 c2) (fun v hv _ => Zam 32 _ _ _ _ rfl (by kernel_rfl) ((Below.cell hv (block_lt_of_cell hc2)).trans hc2) Tryz.underlying32 rfl) hB <| dt 8 23 (.agg (NV.cells ⟨1, a1, n1, c1, a2, n2, c2, rz, none, 0, 0⟩).toArray) (fun v hv _ => Zcr 104 _ [(0, .int .i64 1), (1, .slice a1 n1 c1), (2, .slice a2 n2 c2)] _ rfl (by kernel_rfl) (Zho _ _ _ _ _ _)) hB <| Zah [9] (by kernel_rfl) (by simp) ?_
 refine Zt3 9 gN ((NV.cells ⟨1, a1, n1, c1, a2, n2, c2, rz, none, 0, 0⟩).toArray) rfl (fun _ => by kernel_rfl) (fun _ => Zbf 104 _ _ _ _ _ _ rfl (by kernel_rfl) (by kernel_rfl) hrN (by kernel_rfl) (by kernel_rfl) (by kernel_rfl)) (fun w' h => h.below hB (by omega) hB.size) ?_ Zar
 intro w2 hp3
 have hrC : Rw gN w2 (NV.cells ⟨1, a1, n1, c1, a2, n2, c2, rz, none, 0, 0⟩).toArray 104 := hp3.row hrN
 replace hB : Bl w w2 := hp3.below hB (by omega) hB.size
 have hN : NodeAt (fun _ => True) w2 ⟨1, a1, n1, c1, a2, n2, c2, rz, none, 0, 0⟩ (nodeP (leaf p x)) := ⟨rfl, ((hs1.go hB).mono (fun _ _ => trivial)).agkZ (by omega), ((hs2.go hB).mono (fun _ _ => trivial)).agkZ (by omega), Zh8 _ _, ⟨rfl, Nat.le_refl _, Nat.zero_le _, Nat.zero_le _, fun _ => ⟨rfl, rfl⟩⟩, fun j r hr => by simp [nodeP] at hr⟩
 refine Zbn (by kernel_rfl) <| Zbb <| Zab <| Zac <| Zaa <| rv 40 (.agg (NV.cells ⟨1, a1, n1, c1, a2, n2, c2, rz, none, 0, 0⟩).toArray) (fun _ => Zed 104 _ _ _ _ _ _ rfl (by kernel_rfl) hrC Tryz.underlying104 rfl (by rw [Zge, Zft (y := ⟨1, a1, n1, c1, a2, n2, c2, rz, none, 0, 0⟩) rfl])) <| Za1 41 65 #[.agg (NV.cells ⟨1, a1, n1, c1, a2, n2, c2, rz, none, 0, 0⟩).toArray] (fun _ => by kernel_rfl) (fun _ => by kernel_rfl) (R := fun u w' => (∃ a m c z, u = .tuple #[.slice a m c, .int .i64 z] /\ Sk (fun _ => True) w' a m c (encT (leaf p x)) /\ m <= 65540) /\ Bl (w2) w') (Zxi (by simp) hN) ?_
 rintro _ uE ⟨⟨aE, mE, cE, zE, rfl, hsE, hmE⟩, hbE⟩
 replace hB := hB.go hbE
 replace hrC := hrC.go hbE
 refine rp 39 (.tuple #[.slice aE mE cE, .int .i64 zE]) <| rp 42 (.slice aE mE cE) <| rp 43 (.int .i64 zE) <| rp 5 (.slice aE mE cE) <| rp 6 (.int .i64 zE) <| Zad <| Zab <| Zac <| Zaa <| rp 44 (.slice aE mE cE) <| rp 2 (.slice aE mE cE) <| Zad ?_
 refine Zab <| Za5 ?_
 exact Zaf (.slice aE mE cE) (fun _ => by kernel_rfl) ⟨_, rfl, ⟨aE, mE, cE, rfl, hsE, hmE⟩, hB⟩
set_option maxHeartbeats 4000000 in
theorem Zsb {K : Nat -> Prop} {w : World} {a : Option Addr} {n c : Nat} {vs : List (Value × Value)} {p : List Int} {t : Tr} {B : Nat} (hO : Tr.Ok B (ext p t)) (hB64 : B <= 64) (hl : PAt K w a n c vs (entsR (ext p t))) (hb : n <= 2932031007400) (hlen : ∀ (j : Nat) k x, (entsR (ext p t))[j]? = some (k, x) -> k.length <= 1000000) (hBy : ∀ v, Bl w v -> ∀ K' a' n' c' vs', PAt K' v a' n' c' vs' (entsR t) -> n' <= 2932031007400 -> Calls Tryz.prog 37 #[.slice a' n' c'] v fun e w' => ∃ u, e = .returned u /\ RB7 v t u w') :
  Calls Tryz.prog 37 #[.slice a n c] w fun e w' => ∃ u, e = .returned u /\ RB7 w (ext p t) u w' := by
 have hB := Bl.refl w
 have ll := hl.ll
 have h2n := Zxy hO
 have h0n : 0 < n := by omega
 have hpl : 0 < p.length := List.length_pos_iff.2 hO.2.1
 have hpB := hO.2.2.1
 obtain ⟨gE, oE, a1, n1, c1, a2, n2, c2, k, y0, ea, hej, hc1, hc2, hs1, hs2⟩ := hl.at h0n
 subst ea
 obtain ⟨hkp, hkl⟩ := Zo9 hej
 have lk := hs1.len
 obtain ⟨a6, n6, c6, hr7, hs7⟩ := hs1.cutTo p.length (by omega)
 rw [hkp] at hs7
 have l7 := hs7.len
 refine Za3 Tryz.func37 rfl 45 rfl ?_
 show CW _ _ _ _ _ _ _ [(0, .slice (some ⟨gE, oE, none⟩) n c)] _
 refine Zac <| Zaa <| rp 2 (.slice none 0 0) <| Zad <| Zab <| Zac <| Zaa <| Zb7 3 nz.cells.toArray 104 (fun _ => by kernel_rfl) (fun _ => by kernel_rfl) ?_
 intro wN gN hnN
 have hgN := hnN.hg
 have hszN := hB.size
 replace hB := hB.go hnN.below
 have hrN : Rw gN wN nz.cells.toArray 104 := hnN.row
 refine Zad <| Zab <| Zac <| Zaa <| rp 7 (.slice (some ⟨gE, oE, none⟩) n c) <| Za1 8 61 #[.slice (some ⟨gE, oE, none⟩) n c] (fun _ => by kernel_rfl) (fun _ => by kernel_rfl) (R := fun u w' => u = .int .i64 ((p.length : Nat) : Int) /\ Bl (wN) w') ((Zgn (hl.go hB) (by omega) h0n hlen).mono (fun e w' ⟨u, e1, e2, e3⟩ => ⟨u, e1, by rw [e2, Zt9 hO], e3⟩)) ?_
 rintro _ u1 ⟨rfl, hb3⟩
 replace hB := hB.go hb3
 replace hrN := hrN.go hb3
 refine rp 4 (.int .i64 ((p.length : Nat) : Int)) <| Zad <| Zab <| Zac <| Zay <| Zac <| Zaa <| rp 12 (.slice (some ⟨gE, oE, none⟩) n c) <| rp 13 (.int .i64 n) <| rv 14 (.bool false) (fun _ => Zai (v := .bool ((n : Int) == (1 : Int))) (by kernel_rfl) (congrArg Value.bool (beq_eq_false_iff_ne.2 (by omega)))) <| rp 11 (.bool false) <| Zad ?_
 refine Zab <| Zao (fun _ => by kernel_rfl) <| Zac <| Zaa <| rp 25 (.int .i64 ((p.length : Nat) : Int)) <| rv 26 (.bool true) (fun _ => Zai (v := .bool (decide (((p.length : Nat) : Int) > (0 : Int)))) (by kernel_rfl) (congrArg Value.bool (decide_eq_true (by omega)))) <| rp 24 (.bool true) <| Zad <| Zab <| Zan (fun _ => by kernel_rfl) <| Zcb (fun v => Bl w v) (by kernel_rfl) (hB.drew) ?_
 replace hB := hB.drew
 replace hrN := hrN.drew
 refine dt 0 27 (.slice (some ⟨gE, oE, none⟩) n c) (fun v hv _ => by kernel_rfl) hB <| dt 1 28 (.pointer (some ⟨gE, oE + 0 * 2, none⟩)) (fun v hv _ => Zas 65 _ _ gE oE 0 n c 2 67 rfl (by kernel_rfl) (by kernel_rfl) h0n Tryz.underlying65 (by kernel_rfl)) hB <| dt 2 29 (.pointer (some ⟨gE, oE + 0 * 2, none⟩)) (fun v hv _ => by kernel_rfl) hB <| dt 3 30 (.slice a1 n1 c1) (fun v hv _ => Zam 32 _ _ _ _ rfl (by kernel_rfl) ((Below.cell hv (block_lt_of_cell hc1)).trans hc1) Tryz.underlying32 rfl) hB <| dt 4 31 (.int .i64 ((p.length : Nat) : Int)) (fun v hv _ => by kernel_rfl) hB <| dt 5 32 (.slice a6 n6 c6) (fun v hv _ => hr7 _ _ _ _ _ _ rfl (by kernel_rfl) (by kernel_rfl) rfl) hB <| dt 6 33 (.slice (some ⟨gE, oE, none⟩) n c) (fun v hv _ => by kernel_rfl) hB <| dt 7 34 (.int .i64 ((p.length : Nat) : Int)) (fun v hv _ => by kernel_rfl) hB <| Zah [8] (by kernel_rfl) (by simp) ?_
 refine Zba 8 35 63 #[.slice (some ⟨gE, oE, none⟩) n c, .int .i64 ((p.length : Nat) : Int)] rfl (fun _ => by kernel_rfl) (fun _ => by kernel_rfl) (R := fun u w' => (∃ a' m' c' vs', u = .slice a' m' c' /\ PAt (fun b => K b \/ (u1.drew).heap.size <= b) w' a' m' c' vs' (entsR t)) /\ Bl (u1.drew) w') ((Zph (hl.go hB) hb (fun j k x h => (Zo9 h).2)).mono (fun e w' ⟨u, e1, ⟨a', m', c', vs', e2, e3⟩, e4⟩ => ⟨u, e1, ⟨a', m', c', vs', e2, by rw [Zm1] at e3; exact e3⟩, e4⟩)) (fun u w' h => hB.go h.2) ?_ Zar
 rintro _ u2 ⟨⟨a8, m8, c8, vs8, rfl, hP8⟩, hb8⟩
 replace hB := hB.go hb8
 replace hrN := hrN.go hb8
 have l8 := hP8.ll
 have lE : (entsR (ext p t)).length = (entsR t).length := by simp [entsR]
 refine Zah [9] (by kernel_rfl) (by simp) ?_
 refine Zba 9 36 37 #[.slice a8 m8 c8] rfl (fun _ => by kernel_rfl) (fun _ => by kernel_rfl) (R := RB7 (u2) t) (hBy _ hB _ _ _ _ _ hP8 (by omega)) (fun u w' h => hB.go h.2) ?_ Zar
 rintro _ u3 ⟨⟨a9, m9, c9, rfl, hs9, hm9⟩, hb9⟩
 replace hB := hB.go hb9
 replace hrN := hrN.go hb9
 have l9 := hs9.len
 refine Zah [10] (by kernel_rfl) (by simp) ?_
 refine Zba 10 37 62 #[.slice a9 m9 c9] rfl (fun _ => by kernel_rfl) (fun _ => by kernel_rfl) (R := fun u w' => (∃ y : RV, u = .agg y.cells.toArray /\ RefAt (Own (u3).heap.size w') w' y (referP (encT t))) /\ Bl (u3) w') (Zkr hs9 (by omega)) (fun u w' h => hB.go h.2) ?_ Zar
 rintro _ u4 ⟨⟨y, rfl, hRf⟩, hb10⟩
 have hq10 : gN < _ := lt_of_get hrN
 replace hB := hB.go hb10
 replace hrN := hrN.go hb10
 have hyl : y.d.length = 32 := by rw [hRf.2.1]; exact hRf.2.2.2.1
 refine dt 11 38 (.agg (NV.cells ⟨2, a6, n6, c6, none, 0, 0, y, none, 0, 0⟩).toArray) (fun v hv _ => Zcr 104 _ [(0, .int .i64 2), (1, .slice a6 n6 c6), (3, .agg y.cells.toArray)] _ rfl (by kernel_rfl) (Zf4 _ _ _ _ hyl)) hB <| Zah [12] (by kernel_rfl) (by simp) ?_
 refine Zt3 12 gN ((NV.cells ⟨2, a6, n6, c6, none, 0, 0, y, none, 0, 0⟩).toArray) rfl (fun _ => by kernel_rfl) (fun _ => Zbf 104 _ _ _ _ _ _ rfl (by kernel_rfl) (by kernel_rfl) hrN (by rw [Zge, Zft (y := ⟨2, a6, n6, c6, none, 0, 0, y, none, 0, 0⟩) hyl]) (by rw [Zft (y := ⟨2, a6, n6, c6, none, 0, 0, y, none, 0, 0⟩) hyl]; rfl) (Zwn _)) (fun w' h => h.below hB (by omega) hB.size) ?_ Zar
 intro w5 hp6
 have hrC : Rw gN w5 (NV.cells ⟨2, a6, n6, c6, none, 0, 0, y, none, 0, 0⟩).toArray 104 := hp6.row hrN
 replace hB : Bl w w5 := hp6.below hB (by omega) hB.size
 have hRE := RefAt.go (L := fun _ => True) (fun b hb _ => ⟨hp6.other (by have := hb.1; omega), trivial⟩) hRf
 have hN : NodeAt (fun _ => True) w5 ⟨2, a6, n6, c6, none, 0, 0, y, none, 0, 0⟩ (nodeP (ext p t)) := ⟨rfl, ((hs7.go hB).mono (fun _ _ => trivial)).agkZ (by omega), Zpr _ _, hRE, ⟨rfl, Nat.le_refl _, Nat.zero_le _, Nat.zero_le _, fun _ => ⟨rfl, rfl⟩⟩, fun j r hr => by simp [nodeP] at hr⟩
 refine Zbn (by kernel_rfl) <| Zbb <| Zab <| Zac <| Zaa <| rv 40 (.agg (NV.cells ⟨2, a6, n6, c6, none, 0, 0, y, none, 0, 0⟩).toArray) (fun _ => Zed 104 _ _ _ _ _ _ rfl (by kernel_rfl) hrC Tryz.underlying104 rfl (by rw [Zge, Zft (y := ⟨2, a6, n6, c6, none, 0, 0, y, none, 0, 0⟩) hyl])) <| Za1 41 65 #[.agg (NV.cells ⟨2, a6, n6, c6, none, 0, 0, y, none, 0, 0⟩).toArray] (fun _ => by kernel_rfl) (fun _ => by kernel_rfl) (R := fun u w' => (∃ a m c z, u = .tuple #[.slice a m c, .int .i64 z] /\ Sk (fun _ => True) w' a m c (encT (ext p t)) /\ m <= 65540) /\ Bl (w5) w') (Zxi (by simp) hN) ?_
 rintro _ uE ⟨⟨aE, mE, cE, zE, rfl, hsE, hmE⟩, hbE⟩
 replace hB := hB.go hbE
 replace hrC := hrC.go hbE
 refine rp 39 (.tuple #[.slice aE mE cE, .int .i64 zE]) <| rp 42 (.slice aE mE cE) <| rp 43 (.int .i64 zE) <| rp 5 (.slice aE mE cE) <| rp 6 (.int .i64 zE) <| Zad <| Zab <| Zac <| Zaa <| rp 44 (.slice aE mE cE) <| rp 2 (.slice aE mE cE) <| Zad ?_
 refine Zab <| Za5 ?_
 exact Zaf (.slice aE mE cE) (fun _ => by kernel_rfl) ⟨_, rfl, ⟨aE, mE, cE, rfl, hsE, hmE⟩, hB⟩
set_option maxHeartbeats 4000000 in
theorem Zu4 {K : Nat -> Prop} {w : World} {a : Option Addr} {n c : Nat} {vs : List (Value × Value)} {k : Nat -> Tr} {x : List Int} {B : Nat} (hO : Tr.Ok B (br k x)) (hl : PAt K w a n c vs (entsR (br k x))) (hb : n <= 2932031007400) (hlen : ∀ (j : Nat) q y, (entsR (br k x))[j]? = some (q, y) -> q.length <= 1000000) (hBr : ∀ v, Bl w v -> ∀ Z : Nat -> Prop, PAt (fun b => K b /\ b < w.heap.size) w a n c vs (entsR (br k x)) -> (∀ b, K b /\ b < w.heap.size -> Z b) -> (∀ b, v.heap.size <= b -> Z b) -> Calls Tryz.prog 64 #[.slice a n c] v fun e w' => ∃ u, e = .returned u /\ RN8 Z v (br k x) u w') :
  Calls Tryz.prog 37 #[.slice a n c] w fun e w' => ∃ u, e = .returned u /\ RB7 w (br k x) u w' := by
 have hB := Bl.refl w
 have ll := hl.ll
 have h2n := Zwo hO
 have h0n : 0 < n := by omega
 refine Za3 Tryz.func37 rfl 45 rfl ?_
 show CW _ _ _ _ _ _ _ [(0, .slice a n c)] _
 refine Zac <| Zaa <| rp 2 (.slice none 0 0) <| Zad <| Zab <| Zac <| Zaa <| Zb7 3 nz.cells.toArray 104 (fun _ => by kernel_rfl) (fun _ => by kernel_rfl) ?_
 intro wN gN hnN
 have hgN := hnN.hg
 have hszN := hB.size
 replace hB := hB.go hnN.below
 have hrN : Rw gN wN nz.cells.toArray 104 := hnN.row
 refine Zad <| Zab <| Zac <| Zaa <| rp 7 (.slice a n c) <| Za1 8 61 #[.slice a n c] (fun _ => by kernel_rfl) (fun _ => by kernel_rfl) (R := fun u w' => u = .int .i64 0 /\ Bl (wN) w') ((Zgn (hl.go hB) (by omega) h0n hlen).mono (fun e w' ⟨u, e1, e2, e3⟩ => ⟨u, e1, by rw [e2, Zpp hO]; rfl, e3⟩)) ?_
 rintro _ u1 ⟨rfl, hb3⟩
 replace hB := hB.go hb3
 replace hrN := hrN.go hb3
 refine rp 4 (.int .i64 0) <| Zad <| Zab <| Zac <| Zay <| Zac <| Zaa <| rp 12 (.slice a n c) <| rp 13 (.int .i64 n) <| rv 14 (.bool false) (fun _ => Zai (v := .bool ((n : Int) == (1 : Int))) (by kernel_rfl) (congrArg Value.bool (beq_eq_false_iff_ne.2 (by omega)))) <| rp 11 (.bool false) <| Zad ?_
 refine Zab <| Zao (fun _ => by kernel_rfl) <| Zac <| Zaa <| rp 25 (.int .i64 0) <| rp 26 (.bool false) <| rp 24 (.bool false) <| Zad <| Zab <| Zao (fun _ => by kernel_rfl) <| Zaa <| rp 9 (.slice a n c) ?_
 have hlN := lt_of_get hrN
 refine Za1 10 64 #[.slice a n c] (fun _ => by kernel_rfl) (fun _ => by kernel_rfl) (R := RN8 (fun b => b ≠ gN) (u1) (br k x)) (hBr _ hB _ hl.old (by intro b hb; have := hb.2; omega) (by intro b hb; omega)) ?_
 rintro _ u4 ⟨⟨y, rfl, hN⟩, hb4⟩
 replace hB := hB.go hb4
 replace hrN := hrN.go hb4
 have hyl := hN.c.len
 refine Zcx gN y.cells.toArray (fun _ => by kernel_rfl) (fun _ => Zbf 104 _ _ _ _ _ _ rfl (by kernel_rfl) (by kernel_rfl) hrN (by rw [Zge, Zft hyl]) (by rw [Zft hyl]; rfl) (Zwn _)) ?_
 intro w6 hp6
 have hrC : Rw gN w6 y.cells.toArray 104 := hp6.row hrN
 replace hB : Bl w w6 := hp6.below hB (by omega) hB.size
 have hN6 := hN.go (L := fun _ => True) (fun b hb _ => ⟨hp6.other hb, trivial⟩)
 refine Zad <| Zbb <| Zab <| Zac <| Zaa <| rv 40 (.agg y.cells.toArray) (fun _ => Zed 104 _ _ _ _ _ _ rfl (by kernel_rfl) hrC Tryz.underlying104 rfl (by rw [Zge, Zft hyl])) <| Za1 41 65 #[.agg y.cells.toArray] (fun _ => by kernel_rfl) (fun _ => by kernel_rfl) (R := fun u w' => (∃ a m c z, u = .tuple #[.slice a m c, .int .i64 z] /\ Sk (fun _ => True) w' a m c (encT (br k x)) /\ m <= 65540) /\ Bl (w6) w') (Zxi (by simp) hN6) ?_
 rintro _ uE ⟨⟨aE, mE, cE, zE, rfl, hsE, hmE⟩, hbE⟩
 replace hB := hB.go hbE
 replace hrC := hrC.go hbE
 refine rp 39 (.tuple #[.slice aE mE cE, .int .i64 zE]) <| rp 42 (.slice aE mE cE) <| rp 43 (.int .i64 zE) <| rp 5 (.slice aE mE cE) <| rp 6 (.int .i64 zE) <| Zad <| Zab <| Zac <| Zaa <| rp 44 (.slice aE mE cE) <| rp 2 (.slice aE mE cE) <| Zad ?_
 refine Zab <| Za5 ?_
 exact Zaf (.slice aE mE cE) (fun _ => by kernel_rfl) ⟨_, rfl, ⟨aE, mE, cE, rfl, hsE, hmE⟩, hB⟩
set_option maxHeartbeats 16000000 in
theorem Zyp {K Z : Nat -> Prop} {w : World} {a : Option Addr} {n c : Nat} {vs : List (Value × Value)} {k : Nat -> Tr} {x : List Int} {B : Nat} (hO : Tr.Ok B (br k x)) (hl : PAt K w a n c vs (entsR (br k x))) (hb : n <= 2932031007400) (hxl : x.length <= 256) (hZ1 : ∀ b, K b -> Z b) (hZ2 : ∀ b, w.heap.size <= b -> Z b) (hBy : ∀ i, k i ≠ no -> ∀ v, Bl w v -> ∀ K' a' n' c' vs', PAt K' v a' n' c' vs' (entsR (k i)) -> n' <= 2932031007400 -> Calls Tryz.prog 37 #[.slice a' n' c'] v fun e w' => ∃ u, e = .returned u /\ RB7 v (k i) u w') :
  Calls Tryz.prog 64 #[.slice a n c] w fun e w' => ∃ u, e = .returned u /\ RN8 Z w (br k x) u w' := by
 have hB := Bl.refl w
 have ll := hl.ll
 refine Za3 Tryz.func64 rfl 53 rfl ?_
 show CW _ _ _ _ _ _ _ [(0, .slice a n c)] _
 refine Zac <| Zaa <| Zb7 2 nz.cells.toArray 104 (fun _ => by kernel_rfl) (fun _ => by kernel_rfl) ?_
 intro wN gN hnN
 have hgN := hnN.hg
 have hszN := hB.size
 replace hB := hB.go hnN.below
 have hrN : Rw gN wN nz.cells.toArray 104 := hnN.row
 refine Zad <| Zab <| Zac <| Zaa <| rv 7 (.agg (NV.cells ⟨3, none, 0, 0, none, 0, 0, rz, none, 0, 0⟩).toArray) (fun _ => Zcr 104 _ [(0, .int .i64 3)] _ rfl (by kernel_rfl) (by kernel_rfl)) ?_
 have hlN := lt_of_get hrN
 refine Zb7 3 nz.cells.toArray 104 (fun _ => by kernel_rfl) (fun _ => by kernel_rfl) ?_
 intro wB gB hnB
 have hgB := hnB.hg
 have hszB := hB.size
 replace hB := hB.go hnB.below
 replace hrN := hrN.go hnB.below
 have hrB : Rw gB wB nz.cells.toArray 104 := hnB.row
 refine Zcx gB ((NV.cells ⟨3, none, 0, 0, none, 0, 0, rz, none, 0, 0⟩).toArray) (fun _ => by kernel_rfl) (fun _ => Zbf 104 _ _ _ _ _ _ rfl (by kernel_rfl) (by kernel_rfl) hrB (by kernel_rfl) (by kernel_rfl) (by kernel_rfl)) ?_
 intro w1 hp
 replace hB : Bl w w1 := hp.below hB (by omega) hB.size
 replace hrN := (show Rw _ _ _ _ from (hp.other (by omega)).trans hrN)
 replace hrB : Rw gB w1 ((NV.cells ⟨3, none, 0, 0, none, 0, 0, rz, none, 0, 0⟩).toArray) 104 := hp.row hrB
 refine Zad <| Zab <| Zac <| Zac <| Zaa <| rp 4 (.int .i64 0) <| Zad <| Zab <| Zay ?_
 have hltB := lt_of_get hrB
 refine Zdj (X := Nat × Option Addr × Nat × Nat) (fun z => [(4, .int .i64 ((z.1 : Nat) : Int)), (2, .pointer (some ⟨gN, 0, none⟩)), (3, .pointer (some ⟨gB, 0, none⟩)), (0, .slice a n c)]) (fun z v => Bl w v /\ Rw gN v nz.cells.toArray 104 /\ Rw gB v (NV.cells ⟨3, none, 0, 0, none, 0, 0, rz, z.2.1, z.2.2.1, z.2.2.2⟩).toArray 104 /\ SoR (gB + 1) v (.slice z.2.1 z.2.2.1 z.2.2.2) ((List.range z.1).map (kidR k)) /\ z.1 <= 16) (fun z => 16 - z.1) (0, none, 0, 0) (by exact ⟨fun _ => by kernel_rfl, ⟨fun _ => by kernel_rfl, ⟨fun _ => by kernel_rfl, ⟨fun _ => by kernel_rfl, trivial⟩⟩⟩⟩) ⟨hB, hrN, hrB, Zri _ _, Nat.zero_le _⟩ ?_
 clear hB hrN hrB
 rintro ⟨i, ka, kn, kc⟩ v ⟨hB, hrN, hrB, hS, hi⟩
 simp only at hB hrN hrB hS hi
 show CW _ _ _ _ _ _ _ [(4, .int .i64 ((i : Nat) : Int)), (2, .pointer (some ⟨gN, 0, none⟩)), (3, .pointer (some ⟨gB, 0, none⟩)), (0, .slice a n c)] _
 by_cases hlt : i < 16
 ·skip
  have hvB := lt_of_get hrB
  have hV := Bl.refl v
  have hSv := hS
  have hB0 := hB
  have hrN0 := hrN
  have hrB0 := hrB
  by_cases hki : k i = no
  ·skip
   refine Zac <| Zac <| Zaa <| rp 8 (.int .i64 ((i : Nat) : Int)) <| rv 9 (.bool true) (fun _ => Zai (v := .bool (decide (((i : Nat) : Int) < (16 : Int)))) (by kernel_rfl) (congrArg Value.bool (decide_eq_true (by omega)))) <| Zad <| Zab <| Zan (fun _ => by kernel_rfl) <| Zaz <| Zab <| Zac <| Zay ?_
   refine Zac <| Zaa <| rp 12 (.slice a n c) <| rp 13 (.int .i64 ((i : Nat) : Int)) <| rv 14 (.int .u8 ((i : Nat) : Int)) (fun _ => Zai (v := .int .u8 (IntKind.u8.wrap ((i : Nat) : Int))) (by kernel_rfl) (congrArg (Value.int .u8) (Zyy (by omega)))) <| Za1 15 75 #[.slice a n c, .int .u8 ((i : Nat) : Int)] (fun _ => by kernel_rfl) (fun _ => by kernel_rfl) (R := fun u w' => (∃ a' m' c' vs', u = .slice a' m' c' /\ PAt (fun b => K b \/ (v).heap.size <= b) w' a' m' c' vs' (entsR (k i))) /\ Bl (v) w') ((Zjg (hl.go hB) hb i hlt).mono (fun e w' ⟨u, e1, ⟨a', m', c', vs', e2, e3⟩, e4⟩ => ⟨u, e1, ⟨a', m', c', vs', e2, by rw [Zg7 k x hlt] at e3; exact e3⟩, e4⟩)) ?_
   rintro _ u2 ⟨⟨a8, m8, c8, vs8, rfl, hP8⟩, hb8⟩
   replace hB := hB.go hb8
   replace hrN := hrN.go hb8
   replace hrB := hrB.go hb8
   replace hV := hV.go hb8
   have l8 := hP8.ll
   have hle8 := Zjy ((i : Nat) : Int) (entsR (br k x))
   rw [Zg7 k x hlt] at hle8
   refine rp 5 (.slice a8 m8 c8) <| Zad <| Zab <| Zac <| Zaa <| rp 16 (.slice a8 m8 c8) <| rp 17 (.int .i64 m8) <| rv 18 (.bool true) (fun _ => Zai (v := .bool ((m8 : Int) == (0 : Int))) (by kernel_rfl) (congrArg Value.bool (beq_iff_eq.2 (by rw [hki] at l8; simp [entsR] at l8; omega)))) <| Zad <| Zab <| Zan (fun _ => by kernel_rfl) <| Zaa ?_
   refine rp 19 (.pointer (some ⟨gB, 37, none⟩)) <| rv 20 (.slice ka kn kc) (fun _ => Zam 102 _ ⟨gB, 37, none⟩ _ _ rfl (by kernel_rfl) (by rw [cell_of_row _ _ _ _ _ _ hrB]; rfl) Tryz.underlying102 rfl) <| rv 21 (.agg rz.cells.toArray) (fun _ => Zcr 60 _ [] _ rfl (by kernel_rfl) (by kernel_rfl)) ?_
   have hRV : RefAt (fun b => v.heap.size <= b) u2 rz (kidR k i) := by unfold kidR; rw [if_pos (isNo_iff.2 hki)]; exact Zh8 _ _
   refine rw_v 22 (.slice (some ⟨u2.heap.size, 0, none⟩) 1 1) (fun _ => by kernel_rfl) (fun _ => Zdr rfl rz rfl (by kernel_rfl)) ?_
   obtain ⟨vT, wT, hrT, hS2, hbT⟩ := Ze7 (base := gB + 1) (by omega) hSv hV hRV (by simp; omega) 0
   refine rw_v 23 vT (fun _ => by kernel_rfl) (fun _ => Zfr (fun ty => (show (Builtin.append_ #[102, 102] ty #[.slice ka kn kc, .slice (some ⟨u2.heap.size, 0, none⟩) 1 1]).run Tryz.prog _ = .ok vT wT from hrT)) _ _ rfl (by kernel_rfl) (by kernel_rfl)) ?_
   obtain ⟨ka2, kc2, e2, _⟩ := hS2.kids
   subst e2
   have hS := hS2
   have hwv := hB0.size
   replace hrN : Rw gN wT nz.cells.toArray 104 := (hbT.block gN (by omega)).trans hrN0
   replace hrB : Rw gB wT (NV.cells ⟨3, none, 0, 0, none, 0, 0, rz, ka, kn, kc⟩).toArray 104 := (hbT.block gB (by omega)).trans hrB0
   replace hB : Bl w wT := ⟨hbT.os.trans hB0.os, hbT.tape.trans hB0.tape, hbT.output.trans hB0.output, Nat.le_trans hB0.size hbT.size, fun q hq => (hbT.block q (by omega)).trans (hB0.block q hq)⟩
   clear hV
   refine rp 24 (.pointer (some ⟨gB, 37, none⟩)) <| Zko gB 37 (.slice ka2 ((List.range i).map (kidR k) ++ [kidR k i]).length kc2) (fun _ => by kernel_rfl) (fun _ => Zcp 102 _ _ gB 37 _ 104 _ hrB rfl (by kernel_rfl) (by kernel_rfl) (by show 37 < 38; omega) rfl rfl (by kernel_rfl)) ?_
   intro w3 hst
   replace hrB : Rw gB w3 (NV.cells ⟨3, none, 0, 0, none, 0, 0, rz, ka2, ((List.range i).map (kidR k) ++ [kidR k i]).length, kc2⟩).toArray 104 := hrB.set hst (by kernel_rfl)
   replace hB : Bl w w3 := hst.touch.below hB (by omega) hB.size
   replace hrN := hrN.apart hst (by omega)
   replace hS := hS.keep (fun b hb hlt => hst.touch.block b hlt (by omega))
   refine Zad <| Zbb <| Zab <| Zaa <| rp 10 (.int .i64 ((i : Nat) : Int)) <| rv 11 (.int .i64 (((i : Nat) : Int) + 1)) (fun _ => Zai (v := .int .i64 (IntKind.i64.wrap (((i : Nat) : Int) + 1))) (by kernel_rfl) (congrArg (Value.int .i64) (Zb6 (by omega) (by omega)))) <| rp 4 (.int .i64 (((i : Nat) : Int) + 1)) <| Zad ?_
   exact Zbi (E := fun z => [(4, .int .i64 ((z.1 : Nat) : Int)), (2, .pointer (some ⟨gN, 0, none⟩)), (3, .pointer (some ⟨gB, 0, none⟩)), (0, .slice a n c)]) (R := fun z v => Bl w v /\ Rw gN v nz.cells.toArray 104 /\ Rw gB v (NV.cells ⟨3, none, 0, 0, none, 0, 0, rz, z.2.1, z.2.2.1, z.2.2.2⟩).toArray 104 /\ SoR (gB + 1) v (.slice z.2.1 z.2.2.1 z.2.2.2) ((List.range z.1).map (kidR k)) /\ z.1 <= 16) (μ := fun z => 16 - z.1) (x := (i, ka, kn, kc)) (i + 1, ka2, ((List.range i).map (kidR k) ++ [kidR k i]).length, kc2) (by exact ⟨fun _ => by kernel_rfl, ⟨fun _ => by kernel_rfl, ⟨fun _ => by kernel_rfl, ⟨fun _ => by kernel_rfl, trivial⟩⟩⟩⟩) ⟨hB, hrN, hrB, by show SoR _ _ _ ((List.range (i + 1)).map _); rw [Zef]; exact hS, by show i + 1 <= 16; omega⟩ (by show 16 - (i + 1) < 16 - i; omega)
  ·skip
   have hOk : Tr.Ok (B - 1) (k i) := by rcases hO.1 i with e | e; exact absurd e hki; exact e.2.2
   have hpos := List.length_pos_iff.2 (Zk8 _ hOk)
   refine Zac <| Zac <| Zaa <| rp 8 (.int .i64 ((i : Nat) : Int)) <| rv 9 (.bool true) (fun _ => Zai (v := .bool (decide (((i : Nat) : Int) < (16 : Int)))) (by kernel_rfl) (congrArg Value.bool (decide_eq_true (by omega)))) <| Zad <| Zab <| Zan (fun _ => by kernel_rfl) <| Zaz <| Zab <| Zac <| Zay ?_
   refine Zac <| Zaa <| rp 12 (.slice a n c) <| rp 13 (.int .i64 ((i : Nat) : Int)) <| rv 14 (.int .u8 ((i : Nat) : Int)) (fun _ => Zai (v := .int .u8 (IntKind.u8.wrap ((i : Nat) : Int))) (by kernel_rfl) (congrArg (Value.int .u8) (Zyy (by omega)))) <| Za1 15 75 #[.slice a n c, .int .u8 ((i : Nat) : Int)] (fun _ => by kernel_rfl) (fun _ => by kernel_rfl) (R := fun u w' => (∃ a' m' c' vs', u = .slice a' m' c' /\ PAt (fun b => K b \/ (v).heap.size <= b) w' a' m' c' vs' (entsR (k i))) /\ Bl (v) w') ((Zjg (hl.go hB) hb i hlt).mono (fun e w' ⟨u, e1, ⟨a', m', c', vs', e2, e3⟩, e4⟩ => ⟨u, e1, ⟨a', m', c', vs', e2, by rw [Zg7 k x hlt] at e3; exact e3⟩, e4⟩)) ?_
   rintro _ u4 ⟨⟨a8, m8, c8, vs8, rfl, hP8⟩, hb8⟩
   replace hB := hB.go hb8
   replace hrN := hrN.go hb8
   replace hrB := hrB.go hb8
   replace hV := hV.go hb8
   have l8 := hP8.ll
   have hle8 := Zjy ((i : Nat) : Int) (entsR (br k x))
   rw [Zg7 k x hlt] at hle8
   refine rp 5 (.slice a8 m8 c8) <| Zad <| Zab <| Zac <| Zaa <| rp 16 (.slice a8 m8 c8) <| rp 17 (.int .i64 m8) <| rv 18 (.bool false) (fun _ => Zai (v := .bool ((m8 : Int) == (0 : Int))) (by kernel_rfl) (congrArg Value.bool (beq_eq_false_iff_ne.2 (by omega)))) <| Zad <| Zab <| Zao (fun _ => by kernel_rfl) <| Zcb (fun _ => True) (by kernel_rfl) (trivial) ?_
   replace hB := hB.drew
   replace hrN := hrN.drew
   replace hrB := hrB.drew
   replace hV := hV.drew
   replace hP8 := hP8.drew
   refine dt 0 25 (.pointer (some ⟨gB, 37, none⟩)) (fun v hv _ => by kernel_rfl) trivial <| dt 2 27 (.slice a8 m8 c8) (fun v hv _ => by kernel_rfl) trivial <| Zah [1, 3] (by kernel_rfl) (by simp) ?_
   refine ar_v 1 26 (.slice ka kn kc) rfl (fun _ => by kernel_rfl) (fun _ => Zam 102 _ ⟨gB, 37, none⟩ _ _ rfl (by kernel_rfl) (by rw [cell_of_row _ _ _ _ _ _ hrB]; rfl) Tryz.underlying102 rfl) trivial ?_ ?_
   ·skip
    refine Zah [3] (by kernel_rfl) (by simp) ?_
    refine Zba 3 28 37 #[.slice a8 m8 c8] rfl (fun _ => by kernel_rfl) (fun _ => by kernel_rfl) (R := RB7 (u4.drew) (k i)) (hBy i hki _ hB _ _ _ _ _ hP8 (by omega)) (fun _ _ _ => trivial) ?_ Zar
    rintro _ u9 ⟨⟨a9, m9, c9, rfl, hs9, hm9⟩, hb9⟩
    have l9 := hs9.len
    replace hB := hB.go hb9
    replace hrN := hrN.go hb9
    replace hrB := hrB.go hb9
    replace hV := hV.go hb9
    replace hP8 := hP8.go hb9
    refine Zah [4] (by kernel_rfl) (by simp) ?_
    refine Zba 4 29 62 #[.slice a9 m9 c9] rfl (fun _ => by kernel_rfl) (fun _ => by kernel_rfl) (R := fun u w' => (∃ y : RV, u = .agg y.cells.toArray /\ RefAt (Own (u9).heap.size w') w' y (referP (encT (k i)))) /\ Bl (u9) w') (Zkr hs9 (by omega)) (fun _ _ _ => trivial) ?_ Zar
    rintro _ u10 ⟨⟨y, rfl, hRf⟩, hb10⟩
    have hz9 := hV.size
    replace hB := hB.go hb10
    replace hrN := hrN.go hb10
    replace hrB := hrB.go hb10
    replace hV := hV.go hb10
    replace hP8 := hP8.go hb10
    have hyl : y.d.length = 32 := by rw [hRf.2.1]; exact hRf.2.2.2.1
    refine Zah [5] (by kernel_rfl) (by simp) ?_
    have hRV : RefAt (fun b => v.heap.size <= b) u10 y (kidR k i) := by unfold kidR; rw [if_neg (fun e => hki (isNo_iff.1 e))]; exact RefAt.go (fun b hb _ => ⟨rfl, Nat.le_trans hz9 hb.1⟩) hRf
    refine ar_v 5 30 (.slice (some ⟨u10.heap.size, 0, none⟩) 1 1) rfl (fun _ => by kernel_rfl) (fun _ => Zdr rfl y hyl (by kernel_rfl)) trivial ?_ Zar
    obtain ⟨vT, wT, hrT, hS2, hbT⟩ := Ze7 (base := gB + 1) (by omega) hSv hV hRV (by simp; omega) 0
    replace hrB : Rw gB (u10.alloc (.cells y.cells.toArray 60)) (NV.cells ⟨3, none, 0, 0, none, 0, 0, rz, ka, kn, kc⟩).toArray 104 := hrB.go ((Below.refl _ _).alloc (Nat.le_refl _) _)
    refine Zah [6] (by kernel_rfl) (by simp) ?_
    refine ar_v 6 31 vT rfl (fun _ => by kernel_rfl) (fun _ => Zfr (fun ty => (show (Builtin.append_ #[102, 102] ty #[.slice ka kn kc, .slice (some ⟨u10.heap.size, 0, none⟩) 1 1]).run Tryz.prog _ = .ok vT wT from hrT)) _ _ rfl (by kernel_rfl) (by kernel_rfl)) trivial ?_ Zar
    obtain ⟨ka2, kc2, e2, _⟩ := hS2.kids
    subst e2
    have hS := hS2
    have hwv := hB0.size
    replace hrN : Rw gN wT nz.cells.toArray 104 := (hbT.block gN (by omega)).trans hrN0
    replace hrB : Rw gB wT (NV.cells ⟨3, none, 0, 0, none, 0, 0, rz, ka, kn, kc⟩).toArray 104 := (hbT.block gB (by omega)).trans hrB0
    replace hB : Bl w wT := ⟨hbT.os.trans hB0.os, hbT.tape.trans hB0.tape, hbT.output.trans hB0.output, Nat.le_trans hB0.size hbT.size, fun q hq => (hbT.block q (by omega)).trans (hB0.block q hq)⟩
    clear hV
    refine dt 7 32 (.pointer (some ⟨gB, 37, none⟩)) (fun v hv _ => by kernel_rfl) trivial <| Zah [8] (by kernel_rfl) (by simp) ?_
    refine Zd6 8 gB 37 (.slice ka2 ((List.range i).map (kidR k) ++ [kidR k i]).length kc2) rfl (fun _ => by kernel_rfl) (fun _ => Zcp 102 _ _ gB 37 _ 104 _ hrB rfl (by kernel_rfl) (by kernel_rfl) (by show 37 < 38; omega) rfl rfl (by kernel_rfl)) (fun _ _ => trivial) ?_ Zar
    intro w5 hst
    replace hrB : Rw gB w5 (NV.cells ⟨3, none, 0, 0, none, 0, 0, rz, ka2, ((List.range i).map (kidR k) ++ [kidR k i]).length, kc2⟩).toArray 104 := hrB.set hst (by kernel_rfl)
    replace hB : Bl w w5 := hst.touch.below hB (by omega) hB.size
    replace hrN := hrN.apart hst (by omega)
    replace hS := hS.keep (fun b hb hlt => hst.touch.block b hlt (by omega))
    refine Zbn (by kernel_rfl) <| Zbb <| Zab <| Zaa <| rp 10 (.int .i64 ((i : Nat) : Int)) <| rv 11 (.int .i64 (((i : Nat) : Int) + 1)) (fun _ => Zai (v := .int .i64 (IntKind.i64.wrap (((i : Nat) : Int) + 1))) (by kernel_rfl) (congrArg (Value.int .i64) (Zb6 (by omega) (by omega)))) <| rp 4 (.int .i64 (((i : Nat) : Int) + 1)) <| Zad ?_
    exact Zbi (E := fun z => [(4, .int .i64 ((z.1 : Nat) : Int)), (2, .pointer (some ⟨gN, 0, none⟩)), (3, .pointer (some ⟨gB, 0, none⟩)), (0, .slice a n c)]) (R := fun z v => Bl w v /\ Rw gN v nz.cells.toArray 104 /\ Rw gB v (NV.cells ⟨3, none, 0, 0, none, 0, 0, rz, z.2.1, z.2.2.1, z.2.2.2⟩).toArray 104 /\ SoR (gB + 1) v (.slice z.2.1 z.2.2.1 z.2.2.2) ((List.range z.1).map (kidR k)) /\ z.1 <= 16) (μ := fun z => 16 - z.1) (x := (i, ka, kn, kc)) (i + 1, ka2, ((List.range i).map (kidR k) ++ [kidR k i]).length, kc2) (by exact ⟨fun _ => by kernel_rfl, ⟨fun _ => by kernel_rfl, ⟨fun _ => by kernel_rfl, ⟨fun _ => by kernel_rfl, trivial⟩⟩⟩⟩) ⟨hB, hrN, hrB, by show SoR _ _ _ ((List.range (i + 1)).map _); rw [Zef]; exact hS, by show i + 1 <= 16; omega⟩ (by show 16 - (i + 1) < 16 - i; omega)
   refine Zba 3 28 37 #[.slice a8 m8 c8] rfl (fun _ => by kernel_rfl) (fun _ => by kernel_rfl) (R := RB7 (u4.drew) (k i)) (hBy i hki _ hB _ _ _ _ _ hP8 (by omega)) (fun _ _ _ => trivial) ?_ Zar
   rintro _ u9 ⟨⟨a9, m9, c9, rfl, hs9, hm9⟩, hb9⟩
   have l9 := hs9.len
   replace hB := hB.go hb9
   replace hrN := hrN.go hb9
   replace hrB := hrB.go hb9
   replace hV := hV.go hb9
   replace hP8 := hP8.go hb9
   refine Zah [1, 4] (by kernel_rfl) (by simp) ?_
   refine ar_v 1 26 (.slice ka kn kc) rfl (fun _ => by kernel_rfl) (fun _ => Zam 102 _ ⟨gB, 37, none⟩ _ _ rfl (by kernel_rfl) (by rw [cell_of_row _ _ _ _ _ _ hrB]; rfl) Tryz.underlying102 rfl) trivial ?_ ?_
   ·skip
    refine Zah [4] (by kernel_rfl) (by simp) ?_
    refine Zba 4 29 62 #[.slice a9 m9 c9] rfl (fun _ => by kernel_rfl) (fun _ => by kernel_rfl) (R := fun u w' => (∃ y : RV, u = .agg y.cells.toArray /\ RefAt (Own (u9).heap.size w') w' y (referP (encT (k i)))) /\ Bl (u9) w') (Zkr hs9 (by omega)) (fun _ _ _ => trivial) ?_ Zar
    rintro _ u10 ⟨⟨y, rfl, hRf⟩, hb10⟩
    have hz9 := hV.size
    replace hB := hB.go hb10
    replace hrN := hrN.go hb10
    replace hrB := hrB.go hb10
    replace hV := hV.go hb10
    replace hP8 := hP8.go hb10
    have hyl : y.d.length = 32 := by rw [hRf.2.1]; exact hRf.2.2.2.1
    refine Zah [5] (by kernel_rfl) (by simp) ?_
    have hRV : RefAt (fun b => v.heap.size <= b) u10 y (kidR k i) := by unfold kidR; rw [if_neg (fun e => hki (isNo_iff.1 e))]; exact RefAt.go (fun b hb _ => ⟨rfl, Nat.le_trans hz9 hb.1⟩) hRf
    refine ar_v 5 30 (.slice (some ⟨u10.heap.size, 0, none⟩) 1 1) rfl (fun _ => by kernel_rfl) (fun _ => Zdr rfl y hyl (by kernel_rfl)) trivial ?_ Zar
    obtain ⟨vT, wT, hrT, hS2, hbT⟩ := Ze7 (base := gB + 1) (by omega) hSv hV hRV (by simp; omega) 0
    replace hrB : Rw gB (u10.alloc (.cells y.cells.toArray 60)) (NV.cells ⟨3, none, 0, 0, none, 0, 0, rz, ka, kn, kc⟩).toArray 104 := hrB.go ((Below.refl _ _).alloc (Nat.le_refl _) _)
    refine Zah [6] (by kernel_rfl) (by simp) ?_
    refine ar_v 6 31 vT rfl (fun _ => by kernel_rfl) (fun _ => Zfr (fun ty => (show (Builtin.append_ #[102, 102] ty #[.slice ka kn kc, .slice (some ⟨u10.heap.size, 0, none⟩) 1 1]).run Tryz.prog _ = .ok vT wT from hrT)) _ _ rfl (by kernel_rfl) (by kernel_rfl)) trivial ?_ Zar
    obtain ⟨ka2, kc2, e2, _⟩ := hS2.kids
    subst e2
    have hS := hS2
    have hwv := hB0.size
    replace hrN : Rw gN wT nz.cells.toArray 104 := (hbT.block gN (by omega)).trans hrN0
    replace hrB : Rw gB wT (NV.cells ⟨3, none, 0, 0, none, 0, 0, rz, ka, kn, kc⟩).toArray 104 := (hbT.block gB (by omega)).trans hrB0
    replace hB : Bl w wT := ⟨hbT.os.trans hB0.os, hbT.tape.trans hB0.tape, hbT.output.trans hB0.output, Nat.le_trans hB0.size hbT.size, fun q hq => (hbT.block q (by omega)).trans (hB0.block q hq)⟩
    clear hV
    refine dt 7 32 (.pointer (some ⟨gB, 37, none⟩)) (fun v hv _ => by kernel_rfl) trivial <| Zah [8] (by kernel_rfl) (by simp) ?_
    refine Zd6 8 gB 37 (.slice ka2 ((List.range i).map (kidR k) ++ [kidR k i]).length kc2) rfl (fun _ => by kernel_rfl) (fun _ => Zcp 102 _ _ gB 37 _ 104 _ hrB rfl (by kernel_rfl) (by kernel_rfl) (by show 37 < 38; omega) rfl rfl (by kernel_rfl)) (fun _ _ => trivial) ?_ Zar
    intro w6 hst
    replace hrB : Rw gB w6 (NV.cells ⟨3, none, 0, 0, none, 0, 0, rz, ka2, ((List.range i).map (kidR k) ++ [kidR k i]).length, kc2⟩).toArray 104 := hrB.set hst (by kernel_rfl)
    replace hB : Bl w w6 := hst.touch.below hB (by omega) hB.size
    replace hrN := hrN.apart hst (by omega)
    replace hS := hS.keep (fun b hb hlt => hst.touch.block b hlt (by omega))
    refine Zbn (by kernel_rfl) <| Zbb <| Zab <| Zaa <| rp 10 (.int .i64 ((i : Nat) : Int)) <| rv 11 (.int .i64 (((i : Nat) : Int) + 1)) (fun _ => Zai (v := .int .i64 (IntKind.i64.wrap (((i : Nat) : Int) + 1))) (by kernel_rfl) (congrArg (Value.int .i64) (Zb6 (by omega) (by omega)))) <| rp 4 (.int .i64 (((i : Nat) : Int) + 1)) <| Zad ?_
    exact Zbi (E := fun z => [(4, .int .i64 ((z.1 : Nat) : Int)), (2, .pointer (some ⟨gN, 0, none⟩)), (3, .pointer (some ⟨gB, 0, none⟩)), (0, .slice a n c)]) (R := fun z v => Bl w v /\ Rw gN v nz.cells.toArray 104 /\ Rw gB v (NV.cells ⟨3, none, 0, 0, none, 0, 0, rz, z.2.1, z.2.2.1, z.2.2.2⟩).toArray 104 /\ SoR (gB + 1) v (.slice z.2.1 z.2.2.1 z.2.2.2) ((List.range z.1).map (kidR k)) /\ z.1 <= 16) (μ := fun z => 16 - z.1) (x := (i, ka, kn, kc)) (i + 1, ka2, ((List.range i).map (kidR k) ++ [kidR k i]).length, kc2) (by exact ⟨fun _ => by kernel_rfl, ⟨fun _ => by kernel_rfl, ⟨fun _ => by kernel_rfl, ⟨fun _ => by kernel_rfl, trivial⟩⟩⟩⟩) ⟨hB, hrN, hrB, by show SoR _ _ _ ((List.range (i + 1)).map _); rw [Zef]; exact hS, by show i + 1 <= 16; omega⟩ (by show 16 - (i + 1) < 16 - i; omega)
   refine Zba 4 29 62 #[.slice a9 m9 c9] rfl (fun _ => by kernel_rfl) (fun _ => by kernel_rfl) (R := fun u w' => (∃ y : RV, u = .agg y.cells.toArray /\ RefAt (Own (u9).heap.size w') w' y (referP (encT (k i)))) /\ Bl (u9) w') (Zkr hs9 (by omega)) (fun _ _ _ => trivial) ?_ Zar
   rintro _ u10 ⟨⟨y, rfl, hRf⟩, hb10⟩
   have hz9 := hV.size
   replace hB := hB.go hb10
   replace hrN := hrN.go hb10
   replace hrB := hrB.go hb10
   replace hV := hV.go hb10
   replace hP8 := hP8.go hb10
   have hyl : y.d.length = 32 := by rw [hRf.2.1]; exact hRf.2.2.2.1
   refine Zah [1, 5] (by kernel_rfl) (by simp) ?_
   refine ar_v 1 26 (.slice ka kn kc) rfl (fun _ => by kernel_rfl) (fun _ => Zam 102 _ ⟨gB, 37, none⟩ _ _ rfl (by kernel_rfl) (by rw [cell_of_row _ _ _ _ _ _ hrB]; rfl) Tryz.underlying102 rfl) trivial ?_ ?_
   ·skip
    refine Zah [5] (by kernel_rfl) (by simp) ?_
    have hRV : RefAt (fun b => v.heap.size <= b) u10 y (kidR k i) := by unfold kidR; rw [if_neg (fun e => hki (isNo_iff.1 e))]; exact RefAt.go (fun b hb _ => ⟨rfl, Nat.le_trans hz9 hb.1⟩) hRf
    refine ar_v 5 30 (.slice (some ⟨u10.heap.size, 0, none⟩) 1 1) rfl (fun _ => by kernel_rfl) (fun _ => Zdr rfl y hyl (by kernel_rfl)) trivial ?_ Zar
    obtain ⟨vT, wT, hrT, hS2, hbT⟩ := Ze7 (base := gB + 1) (by omega) hSv hV hRV (by simp; omega) 0
    replace hrB : Rw gB (u10.alloc (.cells y.cells.toArray 60)) (NV.cells ⟨3, none, 0, 0, none, 0, 0, rz, ka, kn, kc⟩).toArray 104 := hrB.go ((Below.refl _ _).alloc (Nat.le_refl _) _)
    refine Zah [6] (by kernel_rfl) (by simp) ?_
    refine ar_v 6 31 vT rfl (fun _ => by kernel_rfl) (fun _ => Zfr (fun ty => (show (Builtin.append_ #[102, 102] ty #[.slice ka kn kc, .slice (some ⟨u10.heap.size, 0, none⟩) 1 1]).run Tryz.prog _ = .ok vT wT from hrT)) _ _ rfl (by kernel_rfl) (by kernel_rfl)) trivial ?_ Zar
    obtain ⟨ka2, kc2, e2, _⟩ := hS2.kids
    subst e2
    have hS := hS2
    have hwv := hB0.size
    replace hrN : Rw gN wT nz.cells.toArray 104 := (hbT.block gN (by omega)).trans hrN0
    replace hrB : Rw gB wT (NV.cells ⟨3, none, 0, 0, none, 0, 0, rz, ka, kn, kc⟩).toArray 104 := (hbT.block gB (by omega)).trans hrB0
    replace hB : Bl w wT := ⟨hbT.os.trans hB0.os, hbT.tape.trans hB0.tape, hbT.output.trans hB0.output, Nat.le_trans hB0.size hbT.size, fun q hq => (hbT.block q (by omega)).trans (hB0.block q hq)⟩
    clear hV
    refine dt 7 32 (.pointer (some ⟨gB, 37, none⟩)) (fun v hv _ => by kernel_rfl) trivial <| Zah [8] (by kernel_rfl) (by simp) ?_
    refine Zd6 8 gB 37 (.slice ka2 ((List.range i).map (kidR k) ++ [kidR k i]).length kc2) rfl (fun _ => by kernel_rfl) (fun _ => Zcp 102 _ _ gB 37 _ 104 _ hrB rfl (by kernel_rfl) (by kernel_rfl) (by show 37 < 38; omega) rfl rfl (by kernel_rfl)) (fun _ _ => trivial) ?_ Zar
    intro w7 hst
    replace hrB : Rw gB w7 (NV.cells ⟨3, none, 0, 0, none, 0, 0, rz, ka2, ((List.range i).map (kidR k) ++ [kidR k i]).length, kc2⟩).toArray 104 := hrB.set hst (by kernel_rfl)
    replace hB : Bl w w7 := hst.touch.below hB (by omega) hB.size
    replace hrN := hrN.apart hst (by omega)
    replace hS := hS.keep (fun b hb hlt => hst.touch.block b hlt (by omega))
    refine Zbn (by kernel_rfl) <| Zbb <| Zab <| Zaa <| rp 10 (.int .i64 ((i : Nat) : Int)) <| rv 11 (.int .i64 (((i : Nat) : Int) + 1)) (fun _ => Zai (v := .int .i64 (IntKind.i64.wrap (((i : Nat) : Int) + 1))) (by kernel_rfl) (congrArg (Value.int .i64) (Zb6 (by omega) (by omega)))) <| rp 4 (.int .i64 (((i : Nat) : Int) + 1)) <| Zad ?_
    exact Zbi (E := fun z => [(4, .int .i64 ((z.1 : Nat) : Int)), (2, .pointer (some ⟨gN, 0, none⟩)), (3, .pointer (some ⟨gB, 0, none⟩)), (0, .slice a n c)]) (R := fun z v => Bl w v /\ Rw gN v nz.cells.toArray 104 /\ Rw gB v (NV.cells ⟨3, none, 0, 0, none, 0, 0, rz, z.2.1, z.2.2.1, z.2.2.2⟩).toArray 104 /\ SoR (gB + 1) v (.slice z.2.1 z.2.2.1 z.2.2.2) ((List.range z.1).map (kidR k)) /\ z.1 <= 16) (μ := fun z => 16 - z.1) (x := (i, ka, kn, kc)) (i + 1, ka2, ((List.range i).map (kidR k) ++ [kidR k i]).length, kc2) (by exact ⟨fun _ => by kernel_rfl, ⟨fun _ => by kernel_rfl, ⟨fun _ => by kernel_rfl, ⟨fun _ => by kernel_rfl, trivial⟩⟩⟩⟩) ⟨hB, hrN, hrB, by show SoR _ _ _ ((List.range (i + 1)).map _); rw [Zef]; exact hS, by show i + 1 <= 16; omega⟩ (by show 16 - (i + 1) < 16 - i; omega)
   have hRV : RefAt (fun b => v.heap.size <= b) u10 y (kidR k i) := by unfold kidR; rw [if_neg (fun e => hki (isNo_iff.1 e))]; exact RefAt.go (fun b hb _ => ⟨rfl, Nat.le_trans hz9 hb.1⟩) hRf
   refine ar_v 5 30 (.slice (some ⟨u10.heap.size, 0, none⟩) 1 1) rfl (fun _ => by kernel_rfl) (fun _ => Zdr rfl y hyl (by kernel_rfl)) trivial ?_ Zar
   obtain ⟨vT, wT, hrT, hS2, hbT⟩ := Ze7 (base := gB + 1) (by omega) hSv hV hRV (by simp; omega) 0
   replace hrB : Rw gB (u10.alloc (.cells y.cells.toArray 60)) (NV.cells ⟨3, none, 0, 0, none, 0, 0, rz, ka, kn, kc⟩).toArray 104 := hrB.go ((Below.refl _ _).alloc (Nat.le_refl _) _)
   refine Zah [1] (by kernel_rfl) (by simp) ?_
   refine ar_v 1 26 (.slice ka kn kc) rfl (fun _ => by kernel_rfl) (fun _ => Zam 102 _ ⟨gB, 37, none⟩ _ _ rfl (by kernel_rfl) (by rw [cell_of_row _ _ _ _ _ _ hrB]; rfl) Tryz.underlying102 rfl) trivial ?_ Zar
   refine Zah [6] (by kernel_rfl) (by simp) ?_
   refine ar_v 6 31 vT rfl (fun _ => by kernel_rfl) (fun _ => Zfr (fun ty => (show (Builtin.append_ #[102, 102] ty #[.slice ka kn kc, .slice (some ⟨u10.heap.size, 0, none⟩) 1 1]).run Tryz.prog _ = .ok vT wT from hrT)) _ _ rfl (by kernel_rfl) (by kernel_rfl)) trivial ?_ Zar
   obtain ⟨ka2, kc2, e2, _⟩ := hS2.kids
   subst e2
   have hS := hS2
   have hwv := hB0.size
   replace hrN : Rw gN wT nz.cells.toArray 104 := (hbT.block gN (by omega)).trans hrN0
   replace hrB : Rw gB wT (NV.cells ⟨3, none, 0, 0, none, 0, 0, rz, ka, kn, kc⟩).toArray 104 := (hbT.block gB (by omega)).trans hrB0
   replace hB : Bl w wT := ⟨hbT.os.trans hB0.os, hbT.tape.trans hB0.tape, hbT.output.trans hB0.output, Nat.le_trans hB0.size hbT.size, fun q hq => (hbT.block q (by omega)).trans (hB0.block q hq)⟩
   clear hV
   refine dt 7 32 (.pointer (some ⟨gB, 37, none⟩)) (fun v hv _ => by kernel_rfl) trivial <| Zah [8] (by kernel_rfl) (by simp) ?_
   refine Zd6 8 gB 37 (.slice ka2 ((List.range i).map (kidR k) ++ [kidR k i]).length kc2) rfl (fun _ => by kernel_rfl) (fun _ => Zcp 102 _ _ gB 37 _ 104 _ hrB rfl (by kernel_rfl) (by kernel_rfl) (by show 37 < 38; omega) rfl rfl (by kernel_rfl)) (fun _ _ => trivial) ?_ Zar
   intro w8 hst
   replace hrB : Rw gB w8 (NV.cells ⟨3, none, 0, 0, none, 0, 0, rz, ka2, ((List.range i).map (kidR k) ++ [kidR k i]).length, kc2⟩).toArray 104 := hrB.set hst (by kernel_rfl)
   replace hB : Bl w w8 := hst.touch.below hB (by omega) hB.size
   replace hrN := hrN.apart hst (by omega)
   replace hS := hS.keep (fun b hb hlt => hst.touch.block b hlt (by omega))
   refine Zbn (by kernel_rfl) <| Zbb <| Zab <| Zaa <| rp 10 (.int .i64 ((i : Nat) : Int)) <| rv 11 (.int .i64 (((i : Nat) : Int) + 1)) (fun _ => Zai (v := .int .i64 (IntKind.i64.wrap (((i : Nat) : Int) + 1))) (by kernel_rfl) (congrArg (Value.int .i64) (Zb6 (by omega) (by omega)))) <| rp 4 (.int .i64 (((i : Nat) : Int) + 1)) <| Zad ?_
   exact Zbi (E := fun z => [(4, .int .i64 ((z.1 : Nat) : Int)), (2, .pointer (some ⟨gN, 0, none⟩)), (3, .pointer (some ⟨gB, 0, none⟩)), (0, .slice a n c)]) (R := fun z v => Bl w v /\ Rw gN v nz.cells.toArray 104 /\ Rw gB v (NV.cells ⟨3, none, 0, 0, none, 0, 0, rz, z.2.1, z.2.2.1, z.2.2.2⟩).toArray 104 /\ SoR (gB + 1) v (.slice z.2.1 z.2.2.1 z.2.2.2) ((List.range z.1).map (kidR k)) /\ z.1 <= 16) (μ := fun z => 16 - z.1) (x := (i, ka, kn, kc)) (i + 1, ka2, ((List.range i).map (kidR k) ++ [kidR k i]).length, kc2) (by exact ⟨fun _ => by kernel_rfl, ⟨fun _ => by kernel_rfl, ⟨fun _ => by kernel_rfl, ⟨fun _ => by kernel_rfl, trivial⟩⟩⟩⟩) ⟨hB, hrN, hrB, by show SoR _ _ _ ((List.range (i + 1)).map _); rw [Zef]; exact hS, by show i + 1 <= 16; omega⟩ (by show 16 - (i + 1) < 16 - i; omega)
 obtain rfl : i = 16 := by omega
 show CW _ _ _ _ _ _ _ [(4, .int .i64 ((16 : Nat) : Int)), (2, .pointer (some ⟨gN, 0, none⟩)), (3, .pointer (some ⟨gB, 0, none⟩)), (0, .slice a n c)] _
 refine Zac <| Zac <| Zaa <| rp 8 (.int .i64 ((16 : Nat) : Int)) <| rv 9 (.bool false) (fun _ => Zai (v := .bool (decide (((16 : Nat) : Int) < (16 : Int)))) (by kernel_rfl) (congrArg Value.bool (decide_eq_false (by omega)))) <| Zad <| Zab <| Zao (fun _ => by kernel_rfl) <| Zd5 <| Zat <| Zat <| Zbj ?_
 refine Zab <| Zac <| Zac <| Zaa <| rp 6 (.int .i64 0) <| Zad <| Zab <| Zay <| Zdj (X := Nat × Option Addr × Nat × Nat) (fun z => [(6, .int .i64 ((z.1 : Nat) : Int)), (2, .pointer (some ⟨gN, 0, none⟩)), (3, .pointer (some ⟨gB, 0, none⟩)), (0, .slice a n c)]) (fun z v => Bl w v /\ Rw gN v nz.cells.toArray 104 /\ Rw gB v (NV.cells ⟨3, none, 0, 0, z.2.1, z.2.2.1, z.2.2.2, rz, ka, kn, kc⟩).toArray 104 /\ SoR (gB + 1) v (.slice ka kn kc) ((List.range 16).map (kidR k)) /\ Sk Z w z.2.1 z.2.2.1 z.2.2.2 (valP [] ((entsR (br k x)).take z.1)) /\ z.1 <= n) (fun z => n - z.1) (0, none, 0, 0) (by exact ⟨fun _ => by kernel_rfl, ⟨fun _ => by kernel_rfl, ⟨fun _ => by kernel_rfl, ⟨fun _ => by kernel_rfl, trivial⟩⟩⟩⟩) ⟨hB, hrN, hrB, hS, Sk.nil _ _, Nat.zero_le _⟩ ?_
 clear hB hrN hrB hS
 rintro ⟨j, va, vn, vc⟩ v ⟨hB, hrN, hrB, hS, hsV, hj⟩
 simp only at hB hrN hrB hS hsV hj
 show CW _ _ _ _ _ _ _ [(6, .int .i64 ((j : Nat) : Int)), (2, .pointer (some ⟨gN, 0, none⟩)), (3, .pointer (some ⟨gB, 0, none⟩)), (0, .slice a n c)] _
 by_cases hlt : j < n
 ·skip
  obtain ⟨gE, oE, a1, n1, c1, a2, n2, c2, q, z, ea, hej, hc1, hc2, hs1, hs2⟩ := hl.at hlt
  subst ea
  have lq := hs1.len
  have hvs := Zug hej
  by_cases hq : q = []
  ·skip
   rw [if_pos hq] at hvs
   refine Zac <| Zac <| Zaa <| rp 33 (.int .i64 ((j : Nat) : Int)) <| rp 34 (.slice (some ⟨gE, oE, none⟩) n c) <| rp 35 (.int .i64 n) <| rv 36 (.bool true) (fun _ => Zai (v := .bool (decide (((j : Nat) : Int) < (n : Int)))) (by kernel_rfl) (congrArg Value.bool (decide_eq_true (by omega)))) <| Zad <| Zab <| Zan (fun _ => by kernel_rfl) <| Zaz <| Zab ?_
   refine Zac <| Zay <| Zac <| Zaa <| rp 39 (.slice (some ⟨gE, oE, none⟩) n c) <| rp 40 (.int .i64 ((j : Nat) : Int)) <| rv 41 (.pointer (some ⟨gE, oE + j * 2, none⟩)) (fun _ => Zas 65 _ _ gE oE j n c 2 67 rfl (by kernel_rfl) (by kernel_rfl) hlt Tryz.underlying65 (by kernel_rfl)) <| rp 42 (.pointer (some ⟨gE, oE + j * 2, none⟩)) <| rv 43 (.slice a1 n1 c1) (fun _ => Zam 32 _ _ _ _ rfl (by kernel_rfl) ((Below.cell hB (block_lt_of_cell hc1)).trans hc1) Tryz.underlying32 rfl) <| rp 44 (.int .i64 n1) <| rv 45 (.bool true) (fun _ => Zai (v := .bool ((n1 : Int) == (0 : Int))) (by kernel_rfl) (congrArg Value.bool (beq_iff_eq.2 (by rw [hq] at lq; simp at lq; omega)))) <| Zad ?_
   refine Zab <| Zan (fun _ => by kernel_rfl) <| Zaa <| rp 46 (.slice (some ⟨gE, oE, none⟩) n c) <| rp 47 (.int .i64 ((j : Nat) : Int)) <| rv 48 (.pointer (some ⟨gE, oE + j * 2, none⟩)) (fun _ => Zas 65 _ _ gE oE j n c 2 67 rfl (by kernel_rfl) (by kernel_rfl) hlt Tryz.underlying65 (by kernel_rfl)) <| rp 49 (.pointer (some ⟨gE, oE + j * 2 + 1, none⟩)) <| rv 50 (.slice a2 n2 c2) (fun _ => Zam 32 _ _ _ _ rfl (by kernel_rfl) ((Below.cell hB (block_lt_of_cell hc2)).trans hc2) Tryz.underlying32 rfl) <| rp 51 (.pointer (some ⟨gB, 2, none⟩)) <| Zko gB 2 (.slice a2 n2 c2) (fun _ => by kernel_rfl) (fun _ => Zcp 32 _ _ gB 2 _ 104 _ hrB rfl (by kernel_rfl) (by kernel_rfl) (by show 2 < 38; omega) rfl rfl (by kernel_rfl)) ?_
   intro w9 hst
   replace hrB : Rw gB w9 (NV.cells ⟨3, none, 0, 0, a2, n2, c2, rz, ka, kn, kc⟩).toArray 104 := hrB.set hst (by kernel_rfl)
   replace hB : Bl w w9 := hst.touch.below hB (by omega) hB.size
   replace hrN := hrN.apart hst (by omega)
   replace hS := hS.keep (fun b hb hlt => hst.touch.block b hlt (by omega))
   refine Zad <| Zbb <| Zab <| Zaa <| rp 37 (.int .i64 ((j : Nat) : Int)) <| rv 38 (.int .i64 (((j : Nat) : Int) + 1)) (fun _ => Zai (v := .int .i64 (IntKind.i64.wrap (((j : Nat) : Int) + 1))) (by kernel_rfl) (congrArg (Value.int .i64) (Zb6 (by omega) (by omega)))) <| rp 6 (.int .i64 (((j : Nat) : Int) + 1)) <| Zad ?_
   exact Zbi (E := fun z => [(6, .int .i64 ((z.1 : Nat) : Int)), (2, .pointer (some ⟨gN, 0, none⟩)), (3, .pointer (some ⟨gB, 0, none⟩)), (0, .slice (some ⟨gE, oE, none⟩) n c)]) (R := fun z v => Bl w v /\ Rw gN v nz.cells.toArray 104 /\ Rw gB v (NV.cells ⟨3, none, 0, 0, z.2.1, z.2.2.1, z.2.2.2, rz, ka, kn, kc⟩).toArray 104 /\ SoR (gB + 1) v (.slice ka kn kc) ((List.range 16).map (kidR k)) /\ Sk Z w z.2.1 z.2.2.1 z.2.2.2 (valP [] ((entsR (br k x)).take z.1)) /\ z.1 <= n) (μ := fun z => n - z.1) (x := (j, va, vn, vc)) (j + 1, a2, n2, c2) (by exact ⟨fun _ => by kernel_rfl, ⟨fun _ => by kernel_rfl, ⟨fun _ => by kernel_rfl, ⟨fun _ => by kernel_rfl, trivial⟩⟩⟩⟩) ⟨hB, hrN, hrB, hS, by show Sk _ _ _ _ _ (valP [] (List.take (j + 1) _)); rw [hvs]; exact hs2.mono hZ1, by show j + 1 <= n; omega⟩ (by show n - (j + 1) < n - j; omega)
  ·skip
   have hq1 := List.length_pos_iff.2 hq
   rw [if_neg hq] at hvs
   refine Zac <| Zac <| Zaa <| rp 33 (.int .i64 ((j : Nat) : Int)) <| rp 34 (.slice (some ⟨gE, oE, none⟩) n c) <| rp 35 (.int .i64 n) <| rv 36 (.bool true) (fun _ => Zai (v := .bool (decide (((j : Nat) : Int) < (n : Int)))) (by kernel_rfl) (congrArg Value.bool (decide_eq_true (by omega)))) <| Zad <| Zab <| Zan (fun _ => by kernel_rfl) <| Zaz <| Zab ?_
   refine Zac <| Zay <| Zac <| Zaa <| rp 39 (.slice (some ⟨gE, oE, none⟩) n c) <| rp 40 (.int .i64 ((j : Nat) : Int)) <| rv 41 (.pointer (some ⟨gE, oE + j * 2, none⟩)) (fun _ => Zas 65 _ _ gE oE j n c 2 67 rfl (by kernel_rfl) (by kernel_rfl) hlt Tryz.underlying65 (by kernel_rfl)) <| rp 42 (.pointer (some ⟨gE, oE + j * 2, none⟩)) <| rv 43 (.slice a1 n1 c1) (fun _ => Zam 32 _ _ _ _ rfl (by kernel_rfl) ((Below.cell hB (block_lt_of_cell hc1)).trans hc1) Tryz.underlying32 rfl) <| rp 44 (.int .i64 n1) <| rv 45 (.bool false) (fun _ => Zai (v := .bool ((n1 : Int) == (0 : Int))) (by kernel_rfl) (congrArg Value.bool (beq_eq_false_iff_ne.2 (by omega)))) <| Zad ?_
   refine Zab <| Zao (fun _ => by kernel_rfl) <| Zaz <| Zbb <| Zab <| Zaa <| rp 37 (.int .i64 ((j : Nat) : Int)) <| rv 38 (.int .i64 (((j : Nat) : Int) + 1)) (fun _ => Zai (v := .int .i64 (IntKind.i64.wrap (((j : Nat) : Int) + 1))) (by kernel_rfl) (congrArg (Value.int .i64) (Zb6 (by omega) (by omega)))) <| rp 6 (.int .i64 (((j : Nat) : Int) + 1)) <| Zad ?_
   exact Zbi (E := fun z => [(6, .int .i64 ((z.1 : Nat) : Int)), (2, .pointer (some ⟨gN, 0, none⟩)), (3, .pointer (some ⟨gB, 0, none⟩)), (0, .slice (some ⟨gE, oE, none⟩) n c)]) (R := fun z v => Bl w v /\ Rw gN v nz.cells.toArray 104 /\ Rw gB v (NV.cells ⟨3, none, 0, 0, z.2.1, z.2.2.1, z.2.2.2, rz, ka, kn, kc⟩).toArray 104 /\ SoR (gB + 1) v (.slice ka kn kc) ((List.range 16).map (kidR k)) /\ Sk Z w z.2.1 z.2.2.1 z.2.2.2 (valP [] ((entsR (br k x)).take z.1)) /\ z.1 <= n) (μ := fun z => n - z.1) (x := (j, va, vn, vc)) (j + 1, va, vn, vc) (by exact ⟨fun _ => by kernel_rfl, ⟨fun _ => by kernel_rfl, ⟨fun _ => by kernel_rfl, ⟨fun _ => by kernel_rfl, trivial⟩⟩⟩⟩) ⟨hB, hrN, hrB, hS, by show Sk _ _ _ _ _ (valP [] (List.take (j + 1) _)); rw [hvs]; exact hsV, by show j + 1 <= n; omega⟩ (by show n - (j + 1) < n - j; omega)
 obtain rfl : j = n := by omega
 rw [List.take_of_length_le (by omega), Zy0] at hsV
 show CW _ _ _ _ _ _ _ [(6, .int .i64 ((j : Nat) : Int)), (2, .pointer (some ⟨gN, 0, none⟩)), (3, .pointer (some ⟨gB, 0, none⟩)), (0, .slice a j c)] _
 refine Zac <| Zac <| Zaa <| rp 33 (.int .i64 ((j : Nat) : Int)) <| rp 34 (.slice a j c) <| rp 35 (.int .i64 j) <| rv 36 (.bool false) (fun _ => Zai (v := .bool (decide (((j : Nat) : Int) < (j : Int)))) (by kernel_rfl) (congrArg Value.bool (decide_eq_false (by omega)))) <| Zad <| Zab <| Zao (fun _ => by kernel_rfl) <| Zd5 <| Zat ?_
 refine Zat <| Zbj <| Zab <| Zac <| Zaa <| rv 52 (.agg (NV.cells ⟨3, none, 0, 0, va, vn, vc, rz, ka, kn, kc⟩).toArray) (fun _ => Zed 104 _ _ _ _ _ _ rfl (by kernel_rfl) hrB Tryz.underlying104 rfl (by kernel_rfl)) <| Zcx gN ((NV.cells ⟨3, none, 0, 0, va, vn, vc, rz, ka, kn, kc⟩).toArray) (fun _ => by kernel_rfl) (fun _ => Zbf 104 _ _ _ _ _ _ rfl (by kernel_rfl) (by kernel_rfl) hrN (by kernel_rfl) (by kernel_rfl) (by kernel_rfl)) ?_
 intro w10 hp
 replace hB : Bl w w10 := hp.below hB (by omega) hB.size
 replace hrN : Rw gN w10 ((NV.cells ⟨3, none, 0, 0, va, vn, vc, rz, ka, kn, kc⟩).toArray) 104 := hp.row hrN
 replace hrB := (show Rw _ _ _ _ from (hp.other (by omega)).trans hrB)
 replace hS := hS.keep (fun b hb _ => hp.other (by omega))
 refine Zad <| Zab <| Za5 ?_
 obtain ⟨ka3, kc3, e3, h31, h32, h33, h34⟩ := hS.kids
 injection e3 with e31 e32 e33
 subst e31
 subst e33
 have lx := hsV.len
 exact Zaf (.agg (NV.cells ⟨3, none, 0, 0, va, vn, vc, rz, ka, kn, kc⟩).toArray) (fun _ => Zrp Tryz.results64 _ gN ⟨3, none, 0, 0, va, vn, vc, rz, ka, kn, kc⟩ rfl (by kernel_rfl) hrN) ⟨_, rfl, ⟨_, rfl, ⟨rfl, Zpr _ _, (hsV.go hB).agkZ (by omega), Zh8 _ _, ⟨e32, (by rw [e32]; exact h31), h32, (by rw [e32]; simp), fun h => ⟨e32.trans (h33 h).1, (h33 h).2⟩⟩, KidsAt.go (fun b hb _ => ⟨rfl, hZ2 b (by omega)⟩) h34⟩⟩, hB⟩
theorem Zsc : ∀ (t : Tr) (B : Nat), Tr.Ok B t -> B <= 64 -> (∀ q y, (q, y) ∈ entsR t -> q.length <= 1000 /\ y.length <= 256) -> ∀ (K : Nat -> Prop) (w : World) (a : Option Addr) (n c : Nat) (vs : List (Value × Value)), PAt K w a n c vs (entsR t) -> n <= 2932031007400 →
  Calls Tryz.prog 37 #[.slice a n c] w fun e w' => ∃ u, e = .returned u /\ RB7 w t u w' := by
 intro t
 induction t with
 | no => intro B hO; exact hO.elim
 | leaf p x =>
  intro B hO hB hv K w a n c vs hl hb
  have hn : n = 1 := hl.ll.symm
  subst hn
  obtain ⟨h1, h2⟩ := hv p x (by simp [entsR])
  exact Zqf hl h1 h2
 | ext p t ih =>
  intro B hO hB hv K w a n c vs hl hb
  refine Zsb hO hB hl hb (fun j k x h => by have := (hv k x (List.mem_of_getElem? h)).1; omega) ?_
  intro v _ K' a' n' c' vs' hP hn
  refine ih (B - p.length) hO.2.2.2.2 (by omega) (fun q y hq => ?_) K' v a' n' c' vs' hP hn
  have := hv (p ++ q) y (by simp only [entsR, List.mem_map]; exact ⟨(q, y), hq, rfl⟩)
  rw [List.length_append] at this
  omega
 | br k x ih =>
  intro B hO hB hv K w a n c vs hl hb
  have hx : x.length <= 256 := by
   by_cases h : x = []
   ·rw [h]; simp
   ·exact (hv [] x (by simp only [entsR]; rw [if_neg h]; simp)).2
  refine Zu4 hO hl hb (fun j q y h => by have := (hv q y (List.mem_of_getElem? h)).1; omega) ?_
  intro v hbv Z hl0 hZ1 hZ2
  refine Zyp hO (hl0.go hbv) hb hx hZ1 hZ2 ?_
  intro i hi v _ K' a' n' c' vs' hP hn
  rcases hO.1 i with e | ⟨e1, e2, e3⟩
  ·exact absurd e hi
  ·refine ih i (B - 1) e3 (by omega) (fun q y hq => ?_) K' v a' n' c' vs' hP hn
   have := hv (((i : Nat) : Int) :: q) y (by
    simp only [entsR, List.mem_append, List.mem_flatMap, List.mem_range, List.mem_map]
    exact .inr ⟨i, e1, (q, y), hq, rfl⟩)
   rw [List.length_cons] at this
   omega
theorem Rel.small {t : Tr} {l : PList} (h : Rel t l) : ∀ q y, (q, y) ∈ entsR t -> q.length <= 1000 /\ y.length <= 256 := by
 intro q y hm
 rw [<- h.ones] at hm
 obtain ⟨⟨k, x⟩, hk, he⟩ := List.mem_map.1 hm
 cases he
 have h1 := ((h.m k x).1 hk).2.1
 exact ⟨by rw [Ni.nib_len]; show 2 * k.length <= 1000; omega, h.v k x hk⟩
theorem Zoa (b k : Nat) (hk : k ≠ b) : ∀ (vs : List Value) (o : Nat) (w : World), (w.setCells b o vs).heap[k]? = w.heap[k]?
 | [], _, _ => rfl
 | v :: r, o, w => (Zoa b k hk r (o + 1) _).trans (heap_setCell_other _ _ _ _ hk)
theorem Zrk (b : Nat) : ∀ (vs : List Value) (o : Nat) (w : World), (w.setCells b o vs).os = w.os /\ (w.setCells b o vs).tape = w.tape /\ (w.setCells b o vs).output = w.output /\ (w.setCells b o vs).heap.size = w.heap.size
 | [], _, _ => ⟨rfl, rfl, rfl, rfl⟩
 | v :: r, o, w => by
  obtain ⟨h1, h2, h3, h4⟩ := Zrk b r (o + 1) (w.setCell ⟨b, o, none⟩ v)
  exact ⟨h1, h2, h3, h4.trans (by simp)⟩
theorem Zv6 (b : Nat) (t : TypeId) : ∀ (vs : List Value) (o : Nat) (w : World) (cur : Array Value), w.heap[b]? = some (.cells cur t (0, 0)) -> ∃ cur' : Array Value, (w.setCells b o vs).heap[b]? = some (.cells cur' t (0, 0)) /\ cur'.size = cur.size
 | [], _, _, cur, h => ⟨cur, h, rfl⟩
 | v :: r, o, w, cur, h => by
  obtain ⟨c', h1, h2⟩ := Zv6 b t r (o + 1) (w.setCell ⟨b, o, none⟩ v) _ (heap_setCell_same w b o cur t v h)
  exact ⟨c', h1, by rw [h2]; simp⟩
structure St (w w' : World) (g : Nat) : Prop where
 other : ∀ k, k ≠ g -> w'.heap[k]? = w.heap[k]?
 os : w'.os = w.os
 tape : w'.tape = w.tape
 output : w'.output = w.output
 size : w'.heap.size = w.heap.size
theorem St.of (w : World) (g o : Nat) (vs : List Value) : St w (w.setCells g o vs) g := by
 obtain ⟨h1, h2, h3, h4⟩ := Zrk g vs o w
 exact ⟨fun k hk => Zoa g k hk vs o w, h1, h2, h3, h4⟩
theorem Rw.st {g g' : Nat} {w w' : World} {cells : Array Value} {T : TypeId} (h : Rw g w cells T) (hp : St w w' g') (hne : g ≠ g') : Rw g w' cells T := (hp.other g hne).trans h
def kz : Array Value := (Array.range 544).map (fun x => rz.cells.toArray[x % 34]!)
def updR (ys : Nat -> RV) (i : Nat) (y : RV) : Nat -> RV := fun j => if j = i then y else ys j
structure Kr (gK : Nat) (w : World) (ys : Nat -> RV) : Prop where
 row : ∃ cur : Array Value, w.heap[gK]? = some (.cells cur 60 (0, 0)) /\ cur.size = 544
 rng : ∀ i, i < 16 -> w.rangeAt gK (0 + i * 34) (ys i).cells
 ln : ∀ i, (ys i).d.length = 32
end Go.Proofs.YtdkpilgelgjieaaGreat

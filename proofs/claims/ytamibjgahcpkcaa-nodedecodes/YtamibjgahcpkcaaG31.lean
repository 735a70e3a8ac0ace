/- What the document's Unpack answers. -/
import Derived.Test.YtamibjgahcpkcaaG30
import Derived.Test.YtamibjgahcpkcaaG14
import Derived.Test.YtamibjgahcpkcaaRows
import Derived.WalkKit
import Derived.WalkSpells
import Derived.WalkLawsBesides
import Derived.BigQuiet
import Derived.Deep.QuietTactic
import Derived.Handy
import Derived.Deep.RegionHeld3
namespace Go.Proofs.Ytamibjgahcpkcaa.Ni
open Go.RowKit
set_option linter.unusedVariables false
theorem nib_heads {b : List Int} (h : 0 < b.length) : (nib b).getD 0 0 = b.getD 0 0 / 16 ∧ (nib b).getD 1 0 = b.getD 0 0 % 16 := by
  cases b with
  | nil => simp at h
  | cons c r => exact ⟨rfl, rfl⟩
theorem ag_drop {w : World} {g off n c k : Nat} {bs : List Int} (h : Ag w (some ⟨g, off, none⟩) n c bs) (hk : k < n) : Ag w (some ⟨g, off + k, none⟩) (n - k) (c - k) (bs.drop k) := by
  have hl := h.l
  rcases h.i with ⟨h0, _⟩ | ⟨gb, off', h1, h2, h3, h4, h5, h7⟩
  · omega
  · injection h1 with h1
    injection h1 with e1 e2
    subst e1 e2
    refine ⟨.inr ⟨g, off + k, rfl, by rw [List.length_drop]; omega, by omega, by omega, by omega, fun j hj => ?_⟩, (fun h => by cases h), by rw [List.length_drop]; omega, isB_drop h.b k⟩
    rw [List.length_drop] at hj
    rw [drop_getD, Nat.add_assoc]
    exact h7 (k + j) (by omega)
theorem ag_empty (w : World) (a : Option Addr) (c : Nat) (h : a = none → c = 0) : Ag w a 0 c [] := ⟨.inl ⟨rfl, rfl⟩, fun e => ⟨rfl, h e⟩, rfl, fun x hx => by cases hx⟩
set_option maxHeartbeats 2000000 in
theorem runpack_any (a : Option Addr) (n c : Nat) (b : List Int) (w : World) (h : Ag w a n c b) (hn : 2 * n ≤ 140737488355328) :
    Calls Try.prog 41 #[.slice a n c] w fun e w' => (∃ a' m c', e = .returned (.tuple #[.slice a' m c', .bool (unpP b).2.1, .int .i64 ((unpP b).2.2 : Nat)]) ∧ Ag w' a' m c' (unpP b).1 ∧ (∀ g off, a' = some ⟨g, off, none⟩ → 0 < m → w.heap.size ≤ g)) ∧ Below w.heap.size w w' := by
  have hl := h.l
  have hof := rof_any a n c b w h hn
  by_cases h0 : n = 0
  · subst h0
    have e : b = [] := List.eq_nil_of_length_eq_zero hl
    subst e
    rw [unp_nil]
    simp only
    have HOF := Hid.mk hof
    clear h hl hof
    go_enter Try.func41, Try.ntmps41
    go_wp2_with fail
    refine HOF.out.mono ?_
    rintro e w1 ⟨⟨a1, c1, rfl, _, _, _, _⟩, hb⟩
    rw [Nat.mul_zero]
    have HB := Hid.mk hb
    clear hb
    go_wp2_with fail
    go_ret3
    exact ⟨⟨none, 0, 0, rfl, ag_nil _, fun g off h => by cases h⟩, HB.out⟩
  have hx := h.b _ (getD_mem (l := b) (i := 0) (by omega))
  have hbad := unp_bad (b := b) (by omega)
  have hgood := unp_good (b := b) (by omega)
  obtain ⟨e0, e1⟩ := nib_heads (b := b) (by omega)
  generalize b.getD 0 0 = x at *
  obtain ⟨hx0, hx1⟩ := hx
  obtain ⟨f, hf⟩ : ∃ f, x / 16 = f := ⟨_, rfl⟩
  obtain ⟨s, hs⟩ : ∃ s, x % 16 = s := ⟨_, rfl⟩
  have hxs : badU x ↔ (f > 3 ∨ (f % 2 = 0 ∧ s ≠ 0)) := by unfold badU; rw [hf, hs]
  rw [hf] at e0 hgood
  rw [hs] at e1
  have hf0 : 0 ≤ f := by omega
  have hf1 : f ≤ 15 := by omega
  have hs0 : 0 ≤ s := by omega
  have hs1 : s ≤ 15 := by omega
  obtain ⟨N, hN⟩ : ∃ N, nib b = N := ⟨_, rfl⟩
  rw [hN] at e0 e1 hof hgood
  clear hf hs hx0 hx1 hN
  obtain ⟨M, hM⟩ : ∃ M, 2 * n = M := ⟨_, rfl⟩
  have hM2 : 2 ≤ M := by omega
  rw [hM] at hof hn
  have HOF := Hid.mk hof
  have hMi : ((M : Int) == 0) = false := by rw [beq_eq_false_iff_ne]; omega
  have hMi0 : (0 : Int) < M := by omega
  have hMi1 : (1 : Int) < M := by omega
  clear h hl hof hM h0
  have hstep : ∀ (g off c1 : Nat) (w1 : World), Ag w1 (some ⟨g, off, none⟩) M c1 N → w1.cell? ⟨g, off, none⟩ = some (.int .u8 f) ∧ w1.cell? ⟨g, off + 1, none⟩ = some (.int .u8 s) := by
    intro g off c1 w1 hag
    obtain ⟨g', off', h1, h2, h3, h4⟩ := ag_head hag (by omega)
    injection h1 with h1
    injection h1 with e2 e3
    subst e2 e3
    have h5 := h4 0 (by omega)
    have h6 := h4 1 (by omega)
    rw [e0, Nat.add_zero] at h5
    rw [e1] at h6
    exact ⟨h5, h6⟩
  have HST := Hid.mk hstep
  clear hstep e0 e1
  have hsome : ∀ (a1 : Option Addr) (c1 : Nat) (w1 : World), Ag w1 a1 M c1 N → ∃ g off, a1 = some ⟨g, off, none⟩ := by
    intro a1 c1 w1 hag
    obtain ⟨g', off', h1, _⟩ := ag_head hag (by omega)
    exact ⟨g', off', h1⟩
  have HSM := Hid.mk hsome
  clear hsome
  by_cases h3 : f > 3
  · rw [hbad (hxs.2 (.inl h3))]
    simp only
    clear hbad hgood hxs
    go_enter Try.func41, Try.ntmps41
    go_wp2_with fail
    refine HOF.out.mono ?_
    rintro e w1 ⟨⟨a1, c1, rfl, hc1, hc2, hag, hnw⟩, hb⟩
    obtain ⟨g, off, rfl⟩ := HSM.out _ _ _ hag
    have HNW := Hid.mk (show w.heap.size ≤ g from hnw (by omega) g off rfl)
    clear hnw
    obtain ⟨z0, z1⟩ := HST.out _ _ _ _ hag
    unfold maxLen at hc2
    have HB := Hid.mk hb
    clear hb hag
    go_wp2_with fail
    go_ret3
    exact ⟨⟨none, 0, 0, rfl, ag_nil _, fun g off h => by cases h⟩, HB.out⟩
  have hf4 : f = 0 ∨ f = 1 ∨ f = 2 ∨ f = 3 := by omega
  clear h3 hf0 hf1
  rcases hf4 with rfl | rfl | rfl | rfl
  ·
    by_cases hs : s = 0
    ·
      subst hs
      rw [hgood (fun hb => by have := hxs.1 hb; omega), if_pos (by omega)]
      simp only
      rw [decide_eq_false (by omega)]
      clear hbad hgood hxs
      go_enter Try.func41, Try.ntmps41
      go_wp2_with fail
      refine HOF.out.mono ?_
      rintro e w1 ⟨⟨a1, c1, rfl, hc1, hc2, hag, hnw⟩, hb⟩
      obtain ⟨g, off, rfl⟩ := HSM.out _ _ _ hag
      have HNW := Hid.mk (show w.heap.size ≤ g from hnw (by omega) g off rfl)
      clear hnw
      obtain ⟨z0, z1⟩ := HST.out _ _ _ _ hag
      unfold maxLen at hc2
      have HB := Hid.mk hb
      have HAG := Hid.mk hag
      have hci : (2 : Int) ≤ c1 := by omega
      have hcm : (M : Int) ≤ c1 := by omega
      have hmm : (2 : Int) ≤ M := by omega
      clear hb hag
      by_cases hcf : c1 = 2
      · have hM3 : M = 2 := by omega
        subst hM3
        subst hcf
        have HNN : Hid (N.drop 2 = []) := Hid.mk (List.drop_of_length_le (by rw [HAG.out.l]; exact Nat.le_refl _))
        go_wp2_with fail
        go_region
        all_goals
          go_wp2_with fail
          go_ret3
          exact ⟨⟨_, _, _, rfl, by rw [HNN.out]; exact ag_empty _ _ _ (fun _ => rfl), fun g off h => by first | (cases h; done) | (intro _; cases h; exact HNW.out)⟩, HB.out.drew⟩
      · by_cases hM3 : M = 2
        · subst hM3
          have HNN : Hid (N.drop 2 = []) := Hid.mk (List.drop_of_length_le (by rw [HAG.out.l]; exact Nat.le_refl _))
          go_wp2_with fail
          go_region
          all_goals
            go_wp2_with fail
            go_ret3
            exact ⟨⟨_, _, _, rfl, by rw [HNN.out]; exact ag_empty _ _ _ (fun h => by cases h), fun g off h _ => by cases h; exact HNW.out⟩, HB.out.drew⟩
        · go_wp2_with fail
          go_region
          all_goals
            go_wp2_with fail
            go_ret3
            exact ⟨⟨_, _, _, rfl, (ag_drop HAG.out (k := 2) (by omega)).drewN, fun g off h _ => by cases h; exact HNW.out⟩, HB.out.drew⟩
    ·
      rw [hbad (hxs.2 (.inr ⟨by omega, hs⟩))]
      simp only
      clear hbad hgood hxs
      have hsb : (s != 0) = true := by rw [bne_iff_ne]; exact hs
      clear hs
      go_enter Try.func41, Try.ntmps41
      go_wp2_with fail
      refine HOF.out.mono ?_
      rintro e w1 ⟨⟨a1, c1, rfl, hc1, hc2, hag, hnw⟩, hb⟩
      obtain ⟨g, off, rfl⟩ := HSM.out _ _ _ hag
      have HNW := Hid.mk (show w.heap.size ≤ g from hnw (by omega) g off rfl)
      clear hnw
      obtain ⟨z0, z1⟩ := HST.out _ _ _ _ hag
      unfold maxLen at hc2
      have HB := Hid.mk hb
      clear hb hag
      go_wp2_with fail
      go_ret3
      exact ⟨⟨none, 0, 0, rfl, ag_nil _, fun g off h => by cases h⟩, HB.out⟩
  ·
    rw [hgood (fun hb => by have := hxs.1 hb; omega), if_neg (by omega)]
    simp only
    rw [decide_eq_false (by omega)]
    clear hbad hgood hxs
    go_enter Try.func41, Try.ntmps41
    go_wp2_with fail
    refine HOF.out.mono ?_
    rintro e w1 ⟨⟨a1, c1, rfl, hc1, hc2, hag, hnw⟩, hb⟩
    obtain ⟨g, off, rfl⟩ := HSM.out _ _ _ hag
    have HNW := Hid.mk (show w.heap.size ≤ g from hnw (by omega) g off rfl)
    clear hnw
    obtain ⟨z0, z1⟩ := HST.out _ _ _ _ hag
    unfold maxLen at hc2
    have HB := Hid.mk hb
    have HAG := Hid.mk hag
    have hci : (1 : Int) ≤ c1 := by omega
    have hcm : (M : Int) ≤ c1 := by omega
    have hmm : (1 : Int) ≤ M := by omega
    have hcf : ¬ c1 = 1 := by omega
    clear hb hag
    go_wp2_with fail
    go_region
    all_goals
      go_wp2_with fail
      go_ret3
      exact ⟨⟨_, _, _, rfl, (ag_drop HAG.out (k := 1) (by omega)).drewN, fun g off h _ => by cases h; exact HNW.out⟩, HB.out.drew⟩
  ·
    by_cases hs : s = 0
    ·
      subst hs
      rw [hgood (fun hb => by have := hxs.1 hb; omega), if_pos (by omega)]
      simp only
      rw [decide_eq_true (by omega)]
      clear hbad hgood hxs
      go_enter Try.func41, Try.ntmps41
      go_wp2_with fail
      refine HOF.out.mono ?_
      rintro e w1 ⟨⟨a1, c1, rfl, hc1, hc2, hag, hnw⟩, hb⟩
      obtain ⟨g, off, rfl⟩ := HSM.out _ _ _ hag
      have HNW := Hid.mk (show w.heap.size ≤ g from hnw (by omega) g off rfl)
      clear hnw
      obtain ⟨z0, z1⟩ := HST.out _ _ _ _ hag
      unfold maxLen at hc2
      have HB := Hid.mk hb
      have HAG := Hid.mk hag
      have hci : (2 : Int) ≤ c1 := by omega
      have hcm : (M : Int) ≤ c1 := by omega
      have hmm : (2 : Int) ≤ M := by omega
      clear hb hag
      by_cases hcf : c1 = 2
      · have hM3 : M = 2 := by omega
        subst hM3
        subst hcf
        have HNN : Hid (N.drop 2 = []) := Hid.mk (List.drop_of_length_le (by rw [HAG.out.l]; exact Nat.le_refl _))
        go_wp2_with fail
        go_region
        all_goals
          go_wp2_with fail
          go_ret3
          exact ⟨⟨_, _, _, rfl, by rw [HNN.out]; exact ag_empty _ _ _ (fun _ => rfl), fun g off h => by first | (cases h; done) | (intro _; cases h; exact HNW.out)⟩, HB.out.drew⟩
      · by_cases hM3 : M = 2
        · subst hM3
          have HNN : Hid (N.drop 2 = []) := Hid.mk (List.drop_of_length_le (by rw [HAG.out.l]; exact Nat.le_refl _))
          go_wp2_with fail
          go_region
          all_goals
            go_wp2_with fail
            go_ret3
            exact ⟨⟨_, _, _, rfl, by rw [HNN.out]; exact ag_empty _ _ _ (fun h => by cases h), fun g off h _ => by cases h; exact HNW.out⟩, HB.out.drew⟩
        · go_wp2_with fail
          go_region
          all_goals
            go_wp2_with fail
            go_ret3
            exact ⟨⟨_, _, _, rfl, (ag_drop HAG.out (k := 2) (by omega)).drewN, fun g off h _ => by cases h; exact HNW.out⟩, HB.out.drew⟩
    ·
      rw [hbad (hxs.2 (.inr ⟨by omega, hs⟩))]
      simp only
      clear hbad hgood hxs
      have hsb : (s != 0) = true := by rw [bne_iff_ne]; exact hs
      clear hs
      go_enter Try.func41, Try.ntmps41
      go_wp2_with fail
      refine HOF.out.mono ?_
      rintro e w1 ⟨⟨a1, c1, rfl, hc1, hc2, hag, hnw⟩, hb⟩
      obtain ⟨g, off, rfl⟩ := HSM.out _ _ _ hag
      have HNW := Hid.mk (show w.heap.size ≤ g from hnw (by omega) g off rfl)
      clear hnw
      obtain ⟨z0, z1⟩ := HST.out _ _ _ _ hag
      unfold maxLen at hc2
      have HB := Hid.mk hb
      clear hb hag
      go_wp2_with fail
      go_ret3
      exact ⟨⟨none, 0, 0, rfl, ag_nil _, fun g off h => by cases h⟩, HB.out⟩
  ·
    rw [hgood (fun hb => by have := hxs.1 hb; omega), if_neg (by omega)]
    simp only
    rw [decide_eq_true (by omega)]
    clear hbad hgood hxs
    go_enter Try.func41, Try.ntmps41
    go_wp2_with fail
    refine HOF.out.mono ?_
    rintro e w1 ⟨⟨a1, c1, rfl, hc1, hc2, hag, hnw⟩, hb⟩
    obtain ⟨g, off, rfl⟩ := HSM.out _ _ _ hag
    have HNW := Hid.mk (show w.heap.size ≤ g from hnw (by omega) g off rfl)
    clear hnw
    obtain ⟨z0, z1⟩ := HST.out _ _ _ _ hag
    unfold maxLen at hc2
    have HB := Hid.mk hb
    have HAG := Hid.mk hag
    have hci : (1 : Int) ≤ c1 := by omega
    have hcm : (M : Int) ≤ c1 := by omega
    have hmm : (1 : Int) ≤ M := by omega
    have hcf : ¬ c1 = 1 := by omega
    clear hb hag
    go_wp2_with fail
    go_region
    all_goals
      go_wp2_with fail
      go_ret3
      exact ⟨⟨_, _, _, rfl, (ag_drop HAG.out (k := 1) (by omega)).drewN, fun g off h _ => by cases h; exact HNW.out⟩, HB.out.drew⟩
end Go.Proofs.Ytamibjgahcpkcaa.Ni
/- The document's Decode. -/
namespace Go.Proofs.Ytamibjgahcpkcaa
open Go.RowKit
open Ni (unpP)
set_option linter.unusedVariables false
set_option maxRecDepth 100000
/-- The item's box and the node's, while Decode goes on. -/
structure De (w1 v : World) (y : V) (x : NV) : Prop where
  ib : B1 w1.heap.size v y
  nb : NBx (w1.heap.size + 1) v x
  bel : Below w1.heap.size w1 v
  sz : w1.heap.size + 2 ≤ v.heap.size
theorem De.go {w1 v v' : World} {y : V} {x : NV} (h : De w1 v y x) (hb : Below v.heap.size v v') : De w1 v' y x := ⟨h.ib.go hb, h.nb.go hb, below_go h.bel hb, Nat.le_trans h.sz hb.size⟩
theorem De.setRow {w1 v : World} {y : V} {x : NV} (h : De w1 v y x) (x' : NV) (hl : x'.c.d.length = 32) : De w1 (v.setRow (w1.heap.size + 1) x'.cells.toArray) y x' :=
  ⟨b1_setRow h.ib (by omega), ⟨setRow_heap _ _ _ _ _ _ h.nb.row, hl⟩, Below.setRow h.bel (by omega) _, by simpa using h.sz⟩
theorem De.drew {w1 v : World} {y : V} {x : NV} (h : De w1 v y x) : De w1 v.drew y x := h.go (Below.refl _ _).drew
theorem De.above {w1 v v' : World} {y : V} {x : NV} (h : De w1 v y x) (hb : Below (w1.heap.size + 2) v v') : De w1 v' y x :=
  ⟨⟨(World.cell?_of_block (w := v) (hb.block w1.heap.size (by omega))).trans h.ib.c0, (World.cell?_of_block (w := v) (hb.block w1.heap.size (by omega))).trans h.ib.c1, (World.cell?_of_block (w := v) (hb.block w1.heap.size (by omega))).trans h.ib.c2⟩, ⟨(hb.block _ (by omega)).trans h.nb.row, h.nb.l⟩,
    h.bel.trans (hb.mono (by omega)), Nat.le_trans h.sz hb.size⟩
theorem ncells_put {x : NV} (hl : x.c.d.length = 32) (ka : Option Addr) (kn kc : Nat) : x.cells.toArray.setIfInBounds 37 (.slice ka kn kc) = (NV.cells { x with ka := ka, kn := kn, kc := kc }).toArray := by
  rw [List.setIfInBounds_toArray]
  congr 1
  rw [NV.cells, NV.cells, show (37 : Nat) = 34 + 1 + 1 + 1 from rfl, List.set_cons_succ, List.set_cons_succ, List.set_cons_succ, List.set_append_right _ _ (by rw [RV.len hl]; omega), RV.len hl]
  rfl
theorem De.put {w1 v : World} {y : V} {x : NV} (h : De w1 v y x) (ka : Option Addr) (kn kc : Nat) : De w1 (v.setCell ⟨w1.heap.size + 1, 37, none⟩ (.slice ka kn kc)) y { x with ka := ka, kn := kn, kc := kc } := by
  have ho : ∀ k, k ≠ w1.heap.size + 1 → (v.setCell ⟨w1.heap.size + 1, 37, none⟩ (.slice ka kn kc)).heap[k]? = v.heap[k]? := fun k hk => heap_setCell_other _ _ _ _ hk
  refine ⟨⟨(World.cell?_of_block (w := v) (ho w1.heap.size (by omega))).trans h.ib.c0, (World.cell?_of_block (w := v) (ho w1.heap.size (by omega))).trans h.ib.c1, (World.cell?_of_block (w := v) (ho w1.heap.size (by omega))).trans h.ib.c2⟩, ⟨?_, h.nb.l⟩, h.bel.setCell (by show w1.heap.size ≤ w1.heap.size + 1; omega) _, by simpa using h.sz⟩
  rw [heap_setCell_same v (w1.heap.size + 1) 37 _ 29 (.slice ka kn kc) h.nb.row, ncells_put h.nb.l]
theorem built_N30f : (fun (va : Option Addr) (vn vc : Nat) => Try.prog.built 29 [(0, .int .i64 3), (2, .slice va vn vc)]) = fun va vn vc => some (NV.cells ⟨3, none, 0, 0, va, vn, vc, rz, none, 0, 0⟩).toArray := by kernel_rfl
theorem built_N30 (va : Option Addr) (vn vc : Nat) : Try.prog.built 29 [(0, .int .i64 3), (2, .slice va vn vc)] = some (NV.cells ⟨3, none, 0, 0, va, vn, vc, rz, none, 0, 0⟩).toArray := congrFun (congrFun (congrFun built_N30f va) vn) vc
theorem nn_size {x y : NV} (hx : x.c.d.length = 32) (hy : y.c.d.length = 32) : x.cells.toArray.size = y.cells.toArray.size := by rw [List.size_toArray, List.size_toArray, NV.len hx, NV.len hy]
theorem Dd.of {w w1 v : World} (h : Dd w w1) (hb : Below w1.heap.size w1 v) : Dd w v := h.go hb
theorem wpl_appendRL {w w' : World} {ops : Array Oper} {rest : List Oper} {o : Oper} {a : Act} {Q : Exit → Act → World → Prop} : True := trivial
section
variable {a : Act} {w : World}
theorem rd_storeRL {x y : Operand} {o : Oper} (ho : o.op = .store 27 x y) (g : Nat) (ia : Option Addr) (m ic : Nat) (old : Value) (hx : a.eval x = .pointer (some ⟨g, 37, none⟩)) (hy : a.eval y = .slice ia m ic) (hc : w.cell? ⟨g, 37, none⟩ = some old) (hf : ∀ o, w.frozen? ⟨g, o, none⟩ = false) :
    (execOp a.eval o).run Try.prog w = .ok .skip (w.setCell ⟨g, 37, none⟩ (.slice ia m ic)) := by
  unfold execOp
  rw [ho]
  simp only [hx, hy]
  go_simp
end
theorem take_mapR {its : List T} {j : Nat} {t : T} (h : its[j]? = some t) : (its.take (j + 1)).map drefP = (its.take j).map drefP ++ [drefP t] := by
  rw [take_succ_get h, List.map_append]
  rfl
theorem drpost_parts {w : World} {r : PR} {e : Ending} {w' : World} (h : DRPost w r e w') : ∃ v, e = .returned v ∧ (Below w.heap.size w w' ∧ ∃ y : RV, v = .agg y.cells.toArray ∧ RefAt (fun b => w.heap.size ≤ b) w' y r) := by
  obtain ⟨⟨y, e1, hy⟩, hb⟩ := h
  exact ⟨_, e1, hb, y, rfl, hy.go fun g hg _ => ⟨rfl, Nat.le_of_lt hg⟩⟩
set_option maxHeartbeats 16000000 in
theorem ddecode_step (b : List Int) (hr : ∀ i, i.length < b.length → DDSaid i) : DDSaid b := by
  intro a n c w hag hn
  have hbB : isB b := hag.b
  have HREC := Hid.mk hr
  have HAG := Hid.mk hag
  have HBB := Hid.mk hbB
  obtain ⟨res, hres⟩ : ∃ res, ND b = res := ⟨_, rfl⟩
  rw [hres]
  have HRES := Hid.mk hres
  have HDD0 := Hid.mk (dd_new w)
  clear hag hr hres hbB
  go_enter Try.func17, Try.ntmps17
  go_upto_region 1 with fail
  refine gen_w (p := fun v => Code.wp _ _ _ _ v) (q := fun v => Dd w v) HDD0.out ?_
  clear HDD0
  intro v D0
  have HD0 := Hid.mk D0
  have HCD := Hid.mk (rDecode_any a n c b v (HAG.out.at D0.bel) hn)
  clear D0
  go_wp2_with fail
  refine HCD.out.mono ?_
  intro e w1 hp
  obtain ⟨hb1, hp⟩ := hp
  have HD1 := Hid.mk (HD0.out.go hb1)
  have HV0 := Hid.mk HD0.out.sz
  cases hq : decP b with
  | bad er =>
    rw [hq] at hp
    have hr := HRES.out
    rw [dd_bad HBB.out hq] at hr
    subst hr
    obtain ⟨rfl, her⟩ := hp
    have hee : ((er : Int) != 0) = true := by rw [bne_iff_ne]; omega
    clear hb1 hq her
    go_upto_region 2 with fail
    refine gen_w (p := fun v => Code.wp _ _ _ _ v) (q := fun v => Dd w v) (HD1.out.go (below_new w1 _)) ?_
    intro v2 D2
    have HD2 := Hid.mk D2
    clear D2
    go_upto_region 3 with fail
    go_wp2_with (first | refine wpList_store_row rfl 29 _ _ rfl _ nz.cells.toArray rfl rfl 29 _ HD2.out.row (infoN' rfl) (nz_size rfl) (all_oneCell_toArray (NV.one _)) ?_)
    refine bodyPost_ret (results_node Try.results17 _ _ w.heap.size nz rfl rfl (setRow_heap _ _ _ _ _ _ HD2.out.row)) rfl ?_
    exact ⟨Below.setRow HD2.out.bel (Nat.le_refl _) _, rfl⟩
  | ok t =>
    rw [hq] at hp
    obtain ⟨y, rfl, hy⟩ := hp
    have HLY := Hid.mk (show LiesP (fun b => w.heap.size + 1 ≤ b) w1 t y from liesP_mono (fun b hb hlt => ⟨rfl, by have := HV0.out; omega⟩) _ _ hy)
    have HQ := Hid.mk hq
    have HSM := Hid.mk (sub_small HBB.out hq)
    clear hb1 hq hy HV0 HD0 HCD
    go_upto_region 2 with fail
    refine gen_w (p := fun v => Code.wp _ _ _ _ v) (q := fun v => B1 w1.heap.size v y ∧ Below w1.heap.size w1 v ∧ v.heap.size = w1.heap.size + 1) ⟨b1_new w1 y, below_new w1 _, by simp⟩ ?_
    rintro v2 ⟨B2, hb2, hs2⟩
    have HB2 := Hid.mk B2
    have HBL := Hid.mk hb2
    have HS2 := Hid.mk hs2
    clear B2 hb2 hs2
    obtain ⟨its, hits⟩ : ∃ its, t.its = its := ⟨_, rfl⟩
    have hpar : y.m = its.length ∧ y.m ≤ y.ic ∧ y.ic ≤ maxLen ∧ LiesPAll (fun b => w.heap.size + 1 ≤ b) w1 its y.ia 0 := by
      obtain ⟨l, bs, its'⟩ := t
      have e : its' = its := hits
      subst e
      obtain ⟨⟨hl, -, hm, hmc, hcm, -⟩, hall⟩ := liesP_eq.1 HLY.out
      exact ⟨hm, hmc, hcm, hall⟩
    obtain ⟨hm, hmc, hcm, hall⟩ := hpar
    unfold maxLen at hcm
    rw [hits] at HSM
    have HITS := Hid.mk hits
    have HM := Hid.mk hm
    have HALL := Hid.mk hall
    clear hits hm hall
    by_cases h2 : y.m = 2
    · have hl2 : its.length = 2 := by rw [← HM.out, h2]
      have c2 := HB2.out.c2
      rw [h2] at c2
      obtain ⟨g, off, y0, A0⟩ := liesPAll_at HALL.out 0 (its.getD 0 t0) (by rw [List.getD, List.getElem?_eq_getElem (by omega)]; rfl)
      obtain ⟨g1, off1, y1, A1⟩ := liesPAll_at HALL.out 1 (its.getD 1 t0) (by rw [List.getD, List.getElem?_eq_getElem (by omega)]; rfl)
      have ha := A1.ha
      rw [A0.ha] at ha
      cases ha
      have HX0 := Hid.mk (HSM.out _ (getD_memT (l := its) (i := 0) (by omega)))
      rw [A0.ha] at c2
      have HIA := Hid.mk A0.ha
      have HA0 := Hid.mk A0
      have HA1 := Hid.mk A1
      have HND := Hid.mk (show ddNode t = (if (unpP (its.getD 0 t0).bs).2.1 = true then ⟨1, (unpP (its.getD 0 t0).bs).1, (its.getD 1 t0).bs, r0, []⟩ else ⟨2, (unpP (its.getD 0 t0).bs).1, [], drefP (its.getD 1 t0), []⟩) from by unfold ddNode; rw [HITS.out, if_pos hl2])
      generalize its.getD 0 t0 = tt0 at HA0 HX0 HND
      generalize its.getD 1 t0 = tt1 at HA1 HND
      have H2 := Hid.mk h2
      clear hl2 A0 A1 h2 hmc
      go_upto_region 4 with fail
      rename_i KK hkk
      refine wp_region_lit ?_
      refine wl_pure 33 (.pointer (some ⟨w1.heap.size, 2, none⟩)) rfl (by kernel_rfl) (by kernel_rfl) ?_
      refine wl_pure 34 (.slice (some ⟨g, off, none⟩) 2 y.ic) rfl (by kernel_rfl) (rd_loadL rfl (by kernel_rfl) c2) ?_
      refine wl_pure 35 (.pointer (some ⟨w1.heap.size, 2, none⟩)) rfl (by kernel_rfl) (by kernel_rfl) ?_
      refine wl_pure 36 (.slice (some ⟨g, off, none⟩) 2 y.ic) rfl (by kernel_rfl) (rd_loadL rfl (by kernel_rfl) c2) ?_
      refine wl_pure 37 (.int .i64 2) rfl (by kernel_rfl) (by kernel_rfl) ?_
      refine wl_pure 38 (.int .i64 1) rfl (by kernel_rfl) (by kernel_rfl) ?_
      refine wl_pure 39 (.pointer (some ⟨g, off + (0 + 1) * 3, none⟩)) rfl (by kernel_rfl) (rd_index (j := 0 + 1) (m := 2) (c := y.ic) rfl (by kernel_rfl) (by kernel_rfl) (by omega)) ?_
      refine wl_pure 40 (.pointer (some ⟨g, off + (0 + 1) * 3 + 1, none⟩)) rfl (by kernel_rfl) (by kernel_rfl) ?_
      refine wl_pure 41 (.slice y1.ba y1.bn y1.bc) rfl (by kernel_rfl) (rd_loadB rfl (by kernel_rfl) (below_cell HBL.out HA1.out.c1)) ?_
      refine wl_pure 42 (.agg (NV.cells ⟨3, none, 0, 0, y1.ba, y1.bn, y1.bc, rz, none, 0, 0⟩).toArray) rfl (by kernel_rfl) (rd_build 29 _ rfl [(0, .int .i64 3), (2, .slice y1.ba y1.bn y1.bc)] (by kernel_rfl) _ (built_N30 _ _ _)) ?_
      refine wl_run 6 (.pointer (some ⟨w1.heap.size + 1, 0, none⟩)) rfl (by kernel_rfl) ((rd_allocN rfl).trans (by rw [HS2.out])) ?_
      refine wl_skip rfl (by kernel_rfl) (rd_store 29 _ _ rfl (w1.heap.size + 1) (NV.cells ⟨3, none, 0, 0, y1.ba, y1.bn, y1.bc, rz, none, 0, 0⟩).toArray (by kernel_rfl) (by kernel_rfl) 29 nz.cells.toArray (by rw [← HS2.out]; exact heap_alloc_new _ _) (infoN' rfl) (nz_size rfl) (all_oneCell_toArray (NV.one _))) ?_
      refine hkk _ _ ?_
      go_frame
      refine gen_w (p := fun v => Code.wp _ _ _ _ v) (q := fun v => De w1 v y ⟨3, none, 0, 0, y1.ba, y1.bn, y1.bc, rz, none, 0, 0⟩) (by
        have e := De.setRow (w1 := w1) (v := v2.alloc (.cells nz.cells.toArray 29)) (y := y) (x := nz) ⟨HB2.out.alloc _, ⟨by rw [← HS2.out]; exact heap_alloc_new _ _, rfl⟩, below_go HBL.out (below_new _ _), by simp [HS2.out]⟩ ⟨3, none, 0, 0, y1.ba, y1.bn, y1.bc, rz, none, 0, 0⟩ rfl
        exact e) ?_
      intro v4 D4
      have HD4 := Hid.mk D4
      clear D4 hkk c2
      have c2 := HD4.out.ib.c2
      rw [HIA.out, H2.out] at c2
      have hag0 : Ag w1 y0.ba y0.bn y0.bc tt0.bs := by obtain ⟨l, bs, its'⟩ := tt0; exact (lies_eq.1 (liesP_lies _ _ HA0.out.li)).2.1
      have HU := Hid.mk (Ni.runpack_any y0.ba y0.bn y0.bc tt0.bs v4 (hag0.at HD4.out.bel) (by have := hag0.l; have := HX0.out; omega))
      have HPL := Hid.mk (Ni.unp_le tt0.bs)
      have hy0n : tt0.bs.length = y0.bn := hag0.l
      have HY0N := Hid.mk hy0n
      clear hag0 hy0n
      obtain ⟨pp, hpp⟩ : ∃ pp, (unpP tt0.bs).1 = pp := ⟨_, rfl⟩
      obtain ⟨lf, hlf⟩ : ∃ lf, (unpP tt0.bs).2.1 = lf := ⟨_, rfl⟩
      obtain ⟨er, her⟩ : ∃ er, (unpP tt0.bs).2.2 = er := ⟨_, rfl⟩
      rw [hpp, hlf, her] at HU
      rw [hpp] at HPL
      rw [hpp, hlf] at HND
      clear hpp hlf her
      go_upto_region 6 with fail
      rename_i KK hkk
      refine wp_region_lit ?_
      refine wl_pure 48 (.pointer (some ⟨w1.heap.size, 2, none⟩)) rfl (by kernel_rfl) (by kernel_rfl) ?_
      refine wl_pure 49 (.slice (some ⟨g, off, none⟩) 2 y.ic) rfl (by kernel_rfl) (rd_loadL rfl (by kernel_rfl) c2) ?_
      refine wl_pure 50 (.pointer (some ⟨g, off + (0 + 0) * 3, none⟩)) rfl (by kernel_rfl) (rd_index (j := 0 + 0) (m := 2) (c := y.ic) rfl (by kernel_rfl) (by kernel_rfl) (by omega)) ?_
      refine wl_pure 51 (.pointer (some ⟨g, off + (0 + 0) * 3 + 1, none⟩)) rfl (by kernel_rfl) (by kernel_rfl) ?_
      refine wl_pure 52 (.slice y0.ba y0.bn y0.bc) rfl (by kernel_rfl) (rd_loadB rfl (by kernel_rfl) (below_cell HD4.out.bel HA0.out.c1)) ?_
      refine wl_call 53 rfl (by kernel_rfl) 41 #[.slice y0.ba y0.bn y0.bc] (by kernel_rfl) (R := fun val w' => Below v4.heap.size v4 w' ∧ ∃ a' m c', val = .tuple #[.slice a' m c', .bool lf, .int .i64 (er : Nat)] ∧ Ag w' a' m c' pp ∧ (∀ g off, a' = some ⟨g, off, none⟩ → 0 < m → v4.heap.size ≤ g)) (HU.out.mono (by rintro e w' ⟨⟨a', m, c', rfl, h1, h2⟩, h3⟩; exact ⟨_, rfl, h3, a', m, c', rfl, h1, h2⟩)) ?_
      rintro val w6 ⟨hb6, a', m, c', rfl, hag6, hnw6⟩
      refine wl_pure 47 (.tuple #[.slice a' m c', .bool lf, .int .i64 (er : Nat)]) rfl (by kernel_rfl) (by kernel_rfl) ?_
      refine wl_pure 54 (.slice a' m c') rfl (by kernel_rfl) (by kernel_rfl) ?_
      refine wl_pure 55 (.bool lf) rfl (by kernel_rfl) (by kernel_rfl) ?_
      refine wl_pure 56 (.int .i64 (er : Nat)) rfl (by kernel_rfl) (by kernel_rfl) ?_
      refine wl_pure 7 (.slice a' m c') rfl (by kernel_rfl) (by kernel_rfl) ?_
      refine wl_pure 8 (.bool lf) rfl (by kernel_rfl) (by kernel_rfl) ?_
      refine wl_pure 9 (.int .i64 (er : Nat)) rfl (by kernel_rfl) (by kernel_rfl) ?_
      refine hkk _ _ ?_
      have HD6 := Hid.mk (HD4.out.go hb6)
      have HPA := Hid.mk (show AgK (fun g => w1.heap.size + 2 ≤ g) w6 a' m c' pp from ⟨hag6, by have := hag6.l; have := HPL.out; have := HX0.out; omega, fun g off e h0 => by have := hnw6 g off e h0; have := HD4.out.sz; omega⟩)
      clear hkk hb6 hag6 hnw6 c2 HU HD4
      have c2 := HD6.out.ib.c2
      rw [HIA.out, H2.out] at c2
      have HRF := Hid.mk (rref_any tt1 y1 w6 (lies_mono HD6.out.bel _ _ (liesP_lies _ _ HA1.out.li)))
      go_frame
      go_upto_region 7 with fail
      rename_i KK hkk
      refine wp_region_lit ?_
      refine wl_pure 57 (.slice a' m c') rfl (by kernel_rfl) (by kernel_rfl) ?_
      refine wl_pure 58 (.pointer (some ⟨w1.heap.size, 2, none⟩)) rfl (by kernel_rfl) (by kernel_rfl) ?_
      refine wl_pure 59 (.slice (some ⟨g, off, none⟩) 2 y.ic) rfl (by kernel_rfl) (rd_loadL rfl (by kernel_rfl) c2) ?_
      refine wl_pure 60 (.pointer (some ⟨g, off + (0 + 1) * 3, none⟩)) rfl (by kernel_rfl) (rd_index (j := 0 + 1) (m := 2) (c := y.ic) rfl (by kernel_rfl) (by kernel_rfl) (by omega)) ?_
      refine wl_pure 61 (.agg #[.bool y1.l, .slice y1.ba y1.bn y1.bc, .slice y1.ia y1.m y1.ic]) rfl (by kernel_rfl) (rd_loadI rfl (by kernel_rfl) (below_cell HD6.out.bel HA1.out.c0) (below_cell HD6.out.bel HA1.out.c1) (below_cell HD6.out.bel HA1.out.c2)) ?_
      refine wl_call 62 rfl (by kernel_rfl) 42 #[.agg #[.bool y1.l, .slice y1.ba y1.bn y1.bc, .slice y1.ia y1.m y1.ic]] (by kernel_rfl) (R := fun val w' => Below w6.heap.size w6 w' ∧ ∃ z : RV, val = .agg z.cells.toArray ∧ RefAt (fun b => w6.heap.size ≤ b) w' z (drefP tt1)) (HRF.out.mono (fun e w' h => drpost_parts h)) ?_
      rintro val w7 ⟨hb7, z, rfl, hz⟩
      have HZL := Hid.mk hz.len
      refine wl_pure 63 (.agg (NV.cells ⟨2, a', m, c', none, 0, 0, z, none, 0, 0⟩).toArray) rfl (by kernel_rfl) (rd_build 29 _ rfl [(0, .int .i64 2), (1, .slice a' m c'), (3, .agg z.cells.toArray)] (by kernel_rfl) _ (built_N2 _ _ _ _ HZL.out)) ?_
      refine wl_skip rfl (by kernel_rfl) (rd_store 29 _ _ rfl (w1.heap.size + 1) (NV.cells ⟨2, a', m, c', none, 0, 0, z, none, 0, 0⟩).toArray (by kernel_rfl) (by kernel_rfl) 29 _ (HD6.out.go hb7).nb.row (infoN' HZL.out) (nn_size (HD6.out.go hb7).nb.l HZL.out) (all_oneCell_toArray (NV.one _))) ?_
      refine hkk _ _ ?_
      have HD7 := Hid.mk ((HD6.out.go hb7).setRow ⟨2, a', m, c', none, 0, 0, z, none, 0, 0⟩ hz.len)
      have hkeep : Keep (fun g => w1.heap.size + 2 ≤ g) (fun g => w1.heap.size + 2 ≤ g) w7 (w7.setRow (w1.heap.size + 1) (NV.cells ⟨2, a', m, c', none, 0, 0, z, none, 0, 0⟩).toArray) := fun k hK hk => ⟨setRow_other _ _ _ _ (by omega), hK⟩
      have HP7 := Hid.mk ((HPA.out.go (Keep.below hb7)).go hkeep)
      have HZ7 := Hid.mk (RefAt.go hkeep (hz.go (fun k hK hk => ⟨rfl, by have := HD6.out.sz; have : w6.heap.size ≤ k := hK; omega⟩)))
      generalize w7.setRow (w1.heap.size + 1) (NV.cells ⟨2, a', m, c', none, 0, 0, z, none, 0, 0⟩).toArray = vT at HD7 HP7 HZ7 ⊢
      clear hkk hb7 hz hkeep c2 HRF HD6 HPA
      go_frame
      have HSW := Hid.mk HD1.out.sz
      cases lf with
      | false =>
        have hnd := HND.out
        rw [if_neg (by simp)] at hnd
        obtain ⟨nn, hnn⟩ : ∃ nn : PN, nn = ⟨2, pp, [], drefP tt1, []⟩ := ⟨_, rfl⟩
        rw [← hnn] at hnd
        clear HND
        have HND := Hid.mk hnd
        have HNA := Hid.mk (show NodeAt (fun g => w.heap.size < g) vT ⟨2, a', m, c', none, 0, 0, z, none, 0, 0⟩ nn from by
          subst hnn
          have hs := HSW.out
          exact ⟨rfl, HP7.out.go (fun k hK hk => ⟨rfl, by omega⟩), agk_nil _ _, HZ7.out.go (fun k hK hk => ⟨rfl, by omega⟩), ⟨rfl, Nat.zero_le _, Nat.zero_le _, Nat.zero_le _, fun _ => ⟨rfl, rfl⟩⟩, kids_nil _ _ _⟩)
        have HDE := HD7
        clear hnd hnn HD7
        go_upto_region 14 with fail
        have HEN := Hid.mk (rEncode_if _ ⟨2, a', m, c', none, 0, 0, z, none, 0, 0⟩ nn vT HNA.out (fun r hrr _ => HREC.out r.i (dd_sub HBB.out HQ.out (by rw [HITS.out, ← HM.out]; first | exact .inl H2.out | exact .inr H17.out) r (by rw [HND.out]; exact hrr))))
        have HOK := Hid.mk HNA.out.okN
        have HXL := Hid.mk HNA.out.c.len
        go_wp2_with (first | refine wpl_loadN rfl _ rfl (w1.heap.size + 1) rfl ⟨2, a', m, c', none, 0, 0, z, none, 0, 0⟩ HDE.out.nb ?_)
        refine HEN.out.mono ?_
        rintro e w5 ⟨⟨a5, m5, c5, rfl, hag5, -⟩, hb5⟩
        have HE5 := Hid.mk (HDE.out.go hb5)
        have HD5 := Hid.mk (HD1.out.go HE5.out.bel)
        have HN5 := Hid.mk (HNA.out.go (Keep.below hb5))
        have hr := HRES.out
        rw [dd_yes HBB.out HQ.out (by rw [HND.out]; exact HOK.out), HND.out] at hr
        obtain ⟨q, hqq⟩ : ∃ q, NR nn = q := ⟨_, rfl⟩
        rw [hqq] at hag5 hr ⊢
        have HQQ := Hid.mk hqq
        clear hb5 hqq HEN
        cases q with
        | false =>
          rw [if_neg (by simp)] at hr
          subst hr
          rw [if_neg (by simp)] at hag5 ⊢
          clear hag5
          go_upto_region 16 with fail
          go_wp2_with (first | refine wpList_store_row rfl 29 _ _ rfl _ nz.cells.toArray rfl rfl 29 _ HD5.out.row (infoN' rfl) (nz_size rfl) (all_oneCell_toArray (NV.one _)) ?_)
          refine bodyPost_ret (results_node Try.results17 _ _ w.heap.size nz rfl rfl (setRow_heap _ _ _ _ _ _ HD5.out.row)) rfl ?_
          exact ⟨Below.setRow HD5.out.bel (Nat.le_refl _) _, rfl⟩
        | true =>
          rw [if_pos rfl] at hag5 ⊢
          have k1 := conv_any hag5.i
          have k2 := conv_any (HAG.out.at HD5.out.bel).i
          have HS := Hid.mk (Ni.str_beq hag5.b HBB.out)
          generalize strOfNums (NE nn) = s1 at k1 HS
          generalize strOfNums b = s2 at k2 HS
          clear hag5
          by_cases heq : NE nn = b
          · rw [if_pos ⟨rfl, heq⟩] at hr
            subst hr
            have hss : (!s1.toList == s2.toList) = false := by rw [HS.out, decide_eq_true heq]; rfl
            clear heq
            go_upto_region 17 with fail
            go_wp2_with (first | refine wpl_loadN rfl _ rfl (w1.heap.size + 1) rfl ⟨2, a', m, c', none, 0, 0, z, none, 0, 0⟩ HE5.out.nb ?_ | refine wpList_store_row rfl 29 _ _ rfl _ (NV.cells ⟨2, a', m, c', none, 0, 0, z, none, 0, 0⟩).toArray rfl rfl 29 _ HD5.out.row (infoN' HXL.out) (nz_size HXL.out) (all_oneCell_toArray (NV.one _)) ?_)
            refine bodyPost_ret (results_node Try.results17 _ _ w.heap.size ⟨2, a', m, c', none, 0, 0, z, none, 0, 0⟩ HXL.out rfl (setRow_heap _ _ _ _ _ _ HD5.out.row)) rfl ?_
            exact ⟨Below.setRow HD5.out.bel (Nat.le_refl _) _, ⟨2, a', m, c', none, 0, 0, z, none, 0, 0⟩, rfl, HN5.out.go fun k hK hk => ⟨setRow_other _ _ _ _ (by omega), Nat.le_of_lt hK⟩⟩
          · rw [if_neg (fun h => heq h.2)] at hr
            subst hr
            have hss : (!s1.toList == s2.toList) = true := by rw [HS.out, decide_eq_false heq]; rfl
            clear heq
            go_upto_region 16 with fail
            go_wp2_with (first | refine wpList_store_row rfl 29 _ _ rfl _ nz.cells.toArray rfl rfl 29 _ HD5.out.row (infoN' rfl) (nz_size rfl) (all_oneCell_toArray (NV.one _)) ?_)
            refine bodyPost_ret (results_node Try.results17 _ _ w.heap.size nz rfl rfl (setRow_heap _ _ _ _ _ _ HD5.out.row)) rfl ?_
            exact ⟨Below.setRow HD5.out.bel (Nat.le_refl _) _, rfl⟩
      | true =>
        have hnd := HND.out
        rw [if_pos rfl] at hnd
        obtain ⟨nn, hnn⟩ : ∃ nn : PN, nn = ⟨1, pp, tt1.bs, r0, []⟩ := ⟨_, rfl⟩
        rw [← hnn] at hnd
        clear HND
        have HND := Hid.mk hnd
        have c2 := HD7.out.ib.c2
        rw [HIA.out, H2.out] at c2
        go_upto_region 9 with fail
        rename_i K2 hkk KK2
        refine wp_region_lit ?_
        refine wl_pure 65 (.slice a' m c') rfl (by kernel_rfl) (by kernel_rfl) ?_
        refine wl_pure 66 (.pointer (some ⟨w1.heap.size, 2, none⟩)) rfl (by kernel_rfl) (by kernel_rfl) ?_
        refine wl_pure 67 (.slice (some ⟨g, off, none⟩) 2 y.ic) rfl (by kernel_rfl) (rd_loadL rfl (by kernel_rfl) c2) ?_
        refine wl_pure 68 (.pointer (some ⟨g, off + (0 + 1) * 3, none⟩)) rfl (by kernel_rfl) (rd_index (j := 0 + 1) (m := 2) (c := y.ic) rfl (by kernel_rfl) (by kernel_rfl) (by omega)) ?_
        refine wl_pure 69 (.pointer (some ⟨g, off + (0 + 1) * 3 + 1, none⟩)) rfl (by kernel_rfl) (by kernel_rfl) ?_
        refine wl_pure 70 (.slice y1.ba y1.bn y1.bc) rfl (by kernel_rfl) (rd_loadB rfl (by kernel_rfl) (below_cell HD7.out.bel HA1.out.c1)) ?_
        refine wl_pure 71 (.agg (NV.cells ⟨1, a', m, c', y1.ba, y1.bn, y1.bc, rz, none, 0, 0⟩).toArray) rfl (by kernel_rfl) (rd_build 29 _ rfl [(0, .int .i64 1), (1, .slice a' m c'), (2, .slice y1.ba y1.bn y1.bc)] (by kernel_rfl) _ (built_N1 _ _ _ _ _ _)) ?_
        refine wl_skip rfl (by kernel_rfl) (rd_store 29 _ _ rfl (w1.heap.size + 1) (NV.cells ⟨1, a', m, c', y1.ba, y1.bn, y1.bc, rz, none, 0, 0⟩).toArray (by kernel_rfl) (by kernel_rfl) 29 _ HD7.out.nb.row (infoN' rfl) (nn_size HD7.out.nb.l rfl) (all_oneCell_toArray (NV.one _))) ?_
        refine hkk _ _ ?_
        have HDE := Hid.mk (HD7.out.setRow ⟨1, a', m, c', y1.ba, y1.bn, y1.bc, rz, none, 0, 0⟩ rfl)
        have hkeep : Keep (fun g => w1.heap.size + 2 ≤ g) (fun g => w.heap.size < g) vT (vT.setRow (w1.heap.size + 1) (NV.cells ⟨1, a', m, c', y1.ba, y1.bn, y1.bc, rz, none, 0, 0⟩).toArray) := fun k hK hk => ⟨setRow_other _ _ _ _ (by omega), by have := HSW.out; omega⟩
        have hv1 : AgK (OwnP (fun b => w.heap.size + 1 ≤ b) w1) w1 y1.ba y1.bn y1.bc tt1.bs := by obtain ⟨l, bs, its'⟩ := tt1; exact liesP_agk HA1.out.li
        have HNA := Hid.mk (show NodeAt (fun g => w.heap.size < g) (vT.setRow (w1.heap.size + 1) (NV.cells ⟨1, a', m, c', y1.ba, y1.bn, y1.bc, rz, none, 0, 0⟩).toArray) ⟨1, a', m, c', y1.ba, y1.bn, y1.bc, rz, none, 0, 0⟩ nn from by
          subst hnn
          exact ⟨rfl, HP7.out.go hkeep, hv1.go (fun k hK hk => ⟨HDE.out.bel.block k hk, by have := hK.1; omega⟩), refAt_zero _ _, ⟨rfl, Nat.zero_le _, Nat.zero_le _, Nat.zero_le _, fun _ => ⟨rfl, rfl⟩⟩, kids_nil _ _ _⟩)
        generalize vT.setRow (w1.heap.size + 1) (NV.cells ⟨1, a', m, c', y1.ba, y1.bn, y1.bc, rz, none, 0, 0⟩).toArray = vT at HDE HNA ⊢
        clear hnd hnn HD7 hkeep hv1 hkk c2 HP7 HZ7
        go_frame
        go_upto_region 14 with fail
        have HEN := Hid.mk (rEncode_if _ ⟨1, a', m, c', y1.ba, y1.bn, y1.bc, rz, none, 0, 0⟩ nn vT HNA.out (fun r hrr _ => HREC.out r.i (dd_sub HBB.out HQ.out (by rw [HITS.out, ← HM.out]; first | exact .inl H2.out | exact .inr H17.out) r (by rw [HND.out]; exact hrr))))
        have HOK := Hid.mk HNA.out.okN
        have HXL := Hid.mk HNA.out.c.len
        go_wp2_with (first | refine wpl_loadN rfl _ rfl (w1.heap.size + 1) rfl ⟨1, a', m, c', y1.ba, y1.bn, y1.bc, rz, none, 0, 0⟩ HDE.out.nb ?_)
        refine HEN.out.mono ?_
        rintro e w5 ⟨⟨a5, m5, c5, rfl, hag5, -⟩, hb5⟩
        have HE5 := Hid.mk (HDE.out.go hb5)
        have HD5 := Hid.mk (HD1.out.go HE5.out.bel)
        have HN5 := Hid.mk (HNA.out.go (Keep.below hb5))
        have hr := HRES.out
        rw [dd_yes HBB.out HQ.out (by rw [HND.out]; exact HOK.out), HND.out] at hr
        obtain ⟨q, hqq⟩ : ∃ q, NR nn = q := ⟨_, rfl⟩
        rw [hqq] at hag5 hr ⊢
        have HQQ := Hid.mk hqq
        clear hb5 hqq HEN
        cases q with
        | false =>
          rw [if_neg (by simp)] at hr
          subst hr
          rw [if_neg (by simp)] at hag5 ⊢
          clear hag5
          go_upto_region 16 with fail
          go_wp2_with (first | refine wpList_store_row rfl 29 _ _ rfl _ nz.cells.toArray rfl rfl 29 _ HD5.out.row (infoN' rfl) (nz_size rfl) (all_oneCell_toArray (NV.one _)) ?_)
          refine bodyPost_ret (results_node Try.results17 _ _ w.heap.size nz rfl rfl (setRow_heap _ _ _ _ _ _ HD5.out.row)) rfl ?_
          exact ⟨Below.setRow HD5.out.bel (Nat.le_refl _) _, rfl⟩
        | true =>
          rw [if_pos rfl] at hag5 ⊢
          have k1 := conv_any hag5.i
          have k2 := conv_any (HAG.out.at HD5.out.bel).i
          have HS := Hid.mk (Ni.str_beq hag5.b HBB.out)
          generalize strOfNums (NE nn) = s1 at k1 HS
          generalize strOfNums b = s2 at k2 HS
          clear hag5
          by_cases heq : NE nn = b
          · rw [if_pos ⟨rfl, heq⟩] at hr
            subst hr
            have hss : (!s1.toList == s2.toList) = false := by rw [HS.out, decide_eq_true heq]; rfl
            clear heq
            go_upto_region 17 with fail
            go_wp2_with (first | refine wpl_loadN rfl _ rfl (w1.heap.size + 1) rfl ⟨1, a', m, c', y1.ba, y1.bn, y1.bc, rz, none, 0, 0⟩ HE5.out.nb ?_ | refine wpList_store_row rfl 29 _ _ rfl _ (NV.cells ⟨1, a', m, c', y1.ba, y1.bn, y1.bc, rz, none, 0, 0⟩).toArray rfl rfl 29 _ HD5.out.row (infoN' HXL.out) (nz_size HXL.out) (all_oneCell_toArray (NV.one _)) ?_)
            refine bodyPost_ret (results_node Try.results17 _ _ w.heap.size ⟨1, a', m, c', y1.ba, y1.bn, y1.bc, rz, none, 0, 0⟩ HXL.out rfl (setRow_heap _ _ _ _ _ _ HD5.out.row)) rfl ?_
            exact ⟨Below.setRow HD5.out.bel (Nat.le_refl _) _, ⟨1, a', m, c', y1.ba, y1.bn, y1.bc, rz, none, 0, 0⟩, rfl, HN5.out.go fun k hK hk => ⟨setRow_other _ _ _ _ (by omega), Nat.le_of_lt hK⟩⟩
          · rw [if_neg (fun h => heq h.2)] at hr
            subst hr
            have hss : (!s1.toList == s2.toList) = true := by rw [HS.out, decide_eq_false heq]; rfl
            clear heq
            go_upto_region 16 with fail
            go_wp2_with (first | refine wpList_store_row rfl 29 _ _ rfl _ nz.cells.toArray rfl rfl 29 _ HD5.out.row (infoN' rfl) (nz_size rfl) (all_oneCell_toArray (NV.one _)) ?_)
            refine bodyPost_ret (results_node Try.results17 _ _ w.heap.size nz rfl rfl (setRow_heap _ _ _ _ _ _ HD5.out.row)) rfl ?_
            exact ⟨Below.setRow HD5.out.bel (Nat.le_refl _) _, rfl⟩
    · by_cases h17 : y.m = 17
      · have hl17 : its.length = 17 := by rw [← HM.out, h17]
        have c2 := HB2.out.c2
        rw [h17] at c2
        obtain ⟨g, off, y1, A1⟩ := liesPAll_at HALL.out 16 (its.getD 16 t0) (by rw [List.getD, List.getElem?_eq_getElem (by omega)]; rfl)
        rw [A1.ha] at c2
        have HIA := Hid.mk A1.ha
        have HA1 := Hid.mk A1
        have HND := Hid.mk (show ddNode t = ⟨3, [], (its.getD 16 t0).bs, r0, (its.take 16).map drefP⟩ from by unfold ddNode; rw [HITS.out, if_neg (by omega)])
        generalize its.getD 16 t0 = tt1 at HA1 HND
        have H17 := Hid.mk h17
        have HL17 := Hid.mk hl17
        clear hl17 A1 h17 h2 hmc
        go_upto_region 4 with fail
        rename_i KK hkk
        refine wp_region_lit ?_
        refine wl_pure 33 (.pointer (some ⟨w1.heap.size, 2, none⟩)) rfl (by kernel_rfl) (by kernel_rfl) ?_
        refine wl_pure 34 (.slice (some ⟨g, off, none⟩) 17 y.ic) rfl (by kernel_rfl) (rd_loadL rfl (by kernel_rfl) c2) ?_
        refine wl_pure 35 (.pointer (some ⟨w1.heap.size, 2, none⟩)) rfl (by kernel_rfl) (by kernel_rfl) ?_
        refine wl_pure 36 (.slice (some ⟨g, off, none⟩) 17 y.ic) rfl (by kernel_rfl) (rd_loadL rfl (by kernel_rfl) c2) ?_
        refine wl_pure 37 (.int .i64 17) rfl (by kernel_rfl) (by kernel_rfl) ?_
        refine wl_pure 38 (.int .i64 16) rfl (by kernel_rfl) (by kernel_rfl) ?_
        refine wl_pure 39 (.pointer (some ⟨g, off + (0 + 16) * 3, none⟩)) rfl (by kernel_rfl) (rd_index (j := 0 + 16) (m := 17) (c := y.ic) rfl (by kernel_rfl) (by kernel_rfl) (by omega)) ?_
        refine wl_pure 40 (.pointer (some ⟨g, off + (0 + 16) * 3 + 1, none⟩)) rfl (by kernel_rfl) (by kernel_rfl) ?_
        refine wl_pure 41 (.slice y1.ba y1.bn y1.bc) rfl (by kernel_rfl) (rd_loadB rfl (by kernel_rfl) (below_cell HBL.out HA1.out.c1)) ?_
        refine wl_pure 42 (.agg (NV.cells ⟨3, none, 0, 0, y1.ba, y1.bn, y1.bc, rz, none, 0, 0⟩).toArray) rfl (by kernel_rfl) (rd_build 29 _ rfl [(0, .int .i64 3), (2, .slice y1.ba y1.bn y1.bc)] (by kernel_rfl) _ (built_N30 _ _ _)) ?_
        refine wl_run 6 (.pointer (some ⟨w1.heap.size + 1, 0, none⟩)) rfl (by kernel_rfl) ((rd_allocN rfl).trans (by rw [HS2.out])) ?_
        refine wl_skip rfl (by kernel_rfl) (rd_store 29 _ _ rfl (w1.heap.size + 1) (NV.cells ⟨3, none, 0, 0, y1.ba, y1.bn, y1.bc, rz, none, 0, 0⟩).toArray (by kernel_rfl) (by kernel_rfl) 29 nz.cells.toArray (by rw [← HS2.out]; exact heap_alloc_new _ _) (infoN' rfl) (nz_size rfl) (all_oneCell_toArray (NV.one _))) ?_
        refine hkk _ _ ?_
        go_frame
        refine gen_w (p := fun v => Code.wp _ _ _ _ v) (q := fun v => De w1 v y ⟨3, none, 0, 0, y1.ba, y1.bn, y1.bc, rz, none, 0, 0⟩) (by
          have e := De.setRow (w1 := w1) (v := v2.alloc (.cells nz.cells.toArray 29)) (y := y) (x := nz) ⟨HB2.out.alloc _, ⟨by rw [← HS2.out]; exact heap_alloc_new _ _, rfl⟩, below_go HBL.out (below_new _ _), by simp [HS2.out]⟩ ⟨3, none, 0, 0, y1.ba, y1.bn, y1.bc, rz, none, 0, 0⟩ rfl
          exact e) ?_
        intro v4 D4
        have HD4 := Hid.mk D4
        clear D4 hkk c2
        have c2 := HD4.out.ib.c2
        rw [HIA.out, H17.out] at c2
        go_wp2_with fail
        go_loopw [10] (fun s10 u => ∃ (j : Nat) (ka : Option Addr) (kn kc : Nat), j ≤ 16 ∧ s10 = .int .i64 j ∧ De w1 u y ⟨3, none, 0, 0, y1.ba, y1.bn, y1.bc, rz, ka, kn, kc⟩ ∧ SoR (w1.heap.size + 2) u (.slice ka kn kc) ((its.take j).map drefP)) (fun s10 _ => 16 - (intOf s10).toNat)
        case atStart => exact ⟨0, none, 0, 0, by omega, rfl, HD4.out, sor_nil _ _⟩
        case round =>
          obtain ⟨j, ka, kn, kc, hj, rfl, hE, hSO⟩ := hrel
          have HE := Hid.mk hE
          have HSO := Hid.mk hSO
          clear hE hSO HD4 c2
          by_cases hlt : j < 16
          · have hji : (j : Int) < 16 := by omega
            obtain ⟨tj, htj⟩ : ∃ tj, its[j]? = some tj := ⟨_, List.getElem?_eq_getElem (by rw [HL17.out]; omega)⟩
            obtain ⟨g', off', yj, AJ⟩ := liesPAll_at HALL.out j tj htj
            have ha := AJ.ha
            rw [HIA.out] at ha
            cases ha
            rw [Nat.zero_add] at AJ
            have HAJ := Hid.mk AJ
            clear AJ
            have HTJ := Hid.mk htj
            clear htj
            go_upto_region 13 with fail
            rename_i KK hkk
            refine wp_region_held_drew (S := fun v' => B1 w1.heap.size v' y ∧ Below w1.heap.size w1 v') (by kernel_rfl) ⟨⟨HE.out.ib.c0, HE.out.ib.c1, HE.out.ib.c2⟩, HE.out.bel.drew⟩ (fun hS => ?_)
            have hE0 := HE.out.drew
            have hxia : ∀ v', B1 w1.heap.size v' y → v'.cell? ⟨w1.heap.size, 2, none⟩ = some (.slice (some ⟨g, off, none⟩) 17 y.ic) := fun v' hv => by have := hv.c2; rwa [HIA.out, H17.out] at this
            refine rd_take 0 76 (.pointer (some ⟨w1.heap.size + 1, 37, none⟩)) rfl rfl (by kernel_rfl) (by kernel_rfl) (by kernel_rfl) (fun _ _ _ h => h) (by kernel_rfl) (fun v _ => by kernel_rfl) hS ?_
            refine rd_take 2 78 (.pointer (some ⟨w1.heap.size, 2, none⟩)) rfl rfl (by kernel_rfl) (by kernel_rfl) (by kernel_rfl) (fun _ _ _ h => h) (by kernel_rfl) (fun v _ => by kernel_rfl) hS ?_
            refine rd_take 3 79 (.slice (some ⟨g, off, none⟩) 17 y.ic) rfl rfl (by kernel_rfl) (by kernel_rfl) (by kernel_rfl) (fun _ _ _ h => h) (by kernel_rfl) (fun v' hv => rd_loadL rfl (by kernel_rfl) (hxia v' hv.1)) hS ?_
            refine rd_take 4 80 (.int .i64 j) rfl rfl (by kernel_rfl) (by kernel_rfl) (by kernel_rfl) (fun _ _ _ h => h) (by kernel_rfl) (fun v _ => by kernel_rfl) hS ?_
            refine rd_take 5 81 (.pointer (some ⟨g, off + j * 3, none⟩)) rfl rfl (by kernel_rfl) (by kernel_rfl) (by kernel_rfl) (fun _ _ _ h => h) (by kernel_rfl) (fun v' _ => rd_index (j := j) (m := 17) (c := y.ic) rfl (by kernel_rfl) (by kernel_rfl) (by omega)) hS ?_
            refine rd_take 6 82 (.agg #[.bool yj.l, .slice yj.ba yj.bn yj.bc, .slice yj.ia yj.m yj.ic]) rfl rfl (by kernel_rfl) (by kernel_rfl) (by kernel_rfl) (fun _ _ _ h => h) (by kernel_rfl) (fun v' hv => rd_loadI rfl (by kernel_rfl) (below_cell hv.2 HAJ.out.c0) (below_cell hv.2 HAJ.out.c1) (below_cell hv.2 HAJ.out.c2)) hS ?_
            refine wpAnyH_ready (rs := [1, 7]) (by kernel_rfl) (by simp) ?_
            refine rd_run 1 77 (.slice ka kn kc) rfl rfl (by kernel_rfl) (rd_loadK rfl (by kernel_rfl) hE0.nb.c37) hS ?_ ?_
            · refine wpAnyH_ready (rs := [7]) (by kernel_rfl) (by simp) ?_
              refine rd_call 7 83 rfl rfl (by kernel_rfl) 42 #[.agg #[.bool yj.l, .slice yj.ba yj.bn yj.bc, .slice yj.ia yj.m yj.ic]] (by kernel_rfl) (R := fun val w' => Below wr.drew.heap.size wr.drew w' ∧ ∃ z : RV, val = .agg z.cells.toArray ∧ RefAt (fun b => wr.drew.heap.size ≤ b) w' z (drefP tj)) ((rref_any tj yj wr.drew (lies_mono hS.2 _ _ (liesP_lies _ _ HAJ.out.li))).mono (fun e w' h => drpost_parts h)) (fun val w' h => ⟨hS.1.go h.1, below_go hS.2 h.1⟩) ?_ AllReadyH.nil
              rintro val u1 ⟨hb1, z, rfl, hz⟩
              have hS1 : B1 w1.heap.size u1 y ∧ Below w1.heap.size w1 u1 := ⟨hS.1.go hb1, below_go hS.2 hb1⟩
              have hE1 := hE0.go hb1
              obtain ⟨v', w3, hrun, hso3, hb3⟩ := sor_one hE0.sz (HSO.out.all (Below.refl _ _).drew) hb1 hz (by rw [List.length_map, List.length_take]; omega) 27
              have hE2 : De w1 (u1.alloc (.cells z.cells.toArray 26)) y ⟨3, none, 0, 0, y1.ba, y1.bn, y1.bc, rz, ka, kn, kc⟩ := hE1.go (below_new _ _)
              have hE3 := hE0.above hb3
              obtain ⟨ka', kc', hv', -⟩ := hso3.kids
              obtain ⟨kn', hkn⟩ : ∃ kn', (((its.take j).map drefP) ++ [drefP tj]).length = kn' := ⟨_, rfl⟩
              rw [hkn] at hv'
              have hE4 := hE3.put ka' kn' kc'
              have hSO4 : SoR (w1.heap.size + 2) (w3.setCell ⟨w1.heap.size + 1, 37, none⟩ v') v' ((its.take (j + 1)).map drefP) := by rw [take_mapR HTJ.out]; exact hso3.keep fun b hb _ => heap_setCell_other _ _ _ _ (by show b ≠ w1.heap.size + 1; omega)
              subst hv'
              refine wpAnyH_ready (rs := [8]) (by kernel_rfl) (by simp) ?_
              refine rd_run 8 84 (.slice (some ⟨u1.heap.size, 0, none⟩) 1 1) rfl rfl (by kernel_rfl) (rd_buildR rfl z hz.len (by kernel_rfl)) ⟨hE2.ib, hE2.bel⟩ ?_ AllReadyH.nil
              refine wpAnyH_ready (rs := [9]) (by kernel_rfl) (by simp) ?_
              refine rd_run 9 85 (.slice ka' kn' kc') rfl rfl (by kernel_rfl) (rd_app rfl (.slice ka kn kc) (.slice (some ⟨u1.heap.size, 0, none⟩) 1 1) (by kernel_rfl) (by kernel_rfl) hrun) ⟨hE3.ib, hE3.bel⟩ ?_ AllReadyH.nil
              refine rd_take 10 86 (.pointer (some ⟨w1.heap.size + 1, 37, none⟩)) rfl rfl (by kernel_rfl) (by kernel_rfl) (by kernel_rfl) (fun _ _ _ h => h) (by kernel_rfl) (fun v _ => by kernel_rfl) ⟨hE3.ib, hE3.bel⟩ ?_
              refine wpAnyH_ready (rs := [11]) (by kernel_rfl) (by simp) ?_
              refine rd_run0 11 rfl rfl (by kernel_rfl) (rd_storeRL rfl (w1.heap.size + 1) ka' kn' kc' _ (by kernel_rfl) (by kernel_rfl) hE3.nb.c37 hE3.nb.fz) ⟨hE4.ib, hE4.bel⟩ ?_ AllReadyH.nil
              refine wpAnyH_done (by kernel_rfl) ?_ _
              refine hkk _ _ ?_
              have HE4 := Hid.mk hE4
              have HSO4 := Hid.mk hSO4
              clear hkn hE4 hSO4 hE3 hE2 hE1 hE0 hS hS1 hso3 hb3 hrun hz hb1 hkk
              go_frame
              go_wp2_with fail
              exact ⟨⟨j + 1, ka', kn', kc', by omega, by simp, HE4.out, HSO4.out⟩, by simp [intOf]; omega⟩
            refine rd_call 7 83 rfl rfl (by kernel_rfl) 42 #[.agg #[.bool yj.l, .slice yj.ba yj.bn yj.bc, .slice yj.ia yj.m yj.ic]] (by kernel_rfl) (R := fun val w' => Below wr.drew.heap.size wr.drew w' ∧ ∃ z : RV, val = .agg z.cells.toArray ∧ RefAt (fun b => wr.drew.heap.size ≤ b) w' z (drefP tj)) ((rref_any tj yj wr.drew (lies_mono hS.2 _ _ (liesP_lies _ _ HAJ.out.li))).mono (fun e w' h => drpost_parts h)) (fun val w' h => ⟨hS.1.go h.1, below_go hS.2 h.1⟩) ?_ AllReadyH.nil
            rintro val u1 ⟨hb1, z, rfl, hz⟩
            have hS1 : B1 w1.heap.size u1 y ∧ Below w1.heap.size w1 u1 := ⟨hS.1.go hb1, below_go hS.2 hb1⟩
            have hE1 := hE0.go hb1
            obtain ⟨v', w3, hrun, hso3, hb3⟩ := sor_one hE0.sz (HSO.out.all (Below.refl _ _).drew) hb1 hz (by rw [List.length_map, List.length_take]; omega) 27
            have hE2 : De w1 (u1.alloc (.cells z.cells.toArray 26)) y ⟨3, none, 0, 0, y1.ba, y1.bn, y1.bc, rz, ka, kn, kc⟩ := hE1.go (below_new _ _)
            have hE3 := hE0.above hb3
            obtain ⟨ka', kc', hv', -⟩ := hso3.kids
            obtain ⟨kn', hkn⟩ : ∃ kn', (((its.take j).map drefP) ++ [drefP tj]).length = kn' := ⟨_, rfl⟩
            rw [hkn] at hv'
            have hE4 := hE3.put ka' kn' kc'
            have hSO4 : SoR (w1.heap.size + 2) (w3.setCell ⟨w1.heap.size + 1, 37, none⟩ v') v' ((its.take (j + 1)).map drefP) := by rw [take_mapR HTJ.out]; exact hso3.keep fun b hb _ => heap_setCell_other _ _ _ _ (by show b ≠ w1.heap.size + 1; omega)
            subst hv'
            refine wpAnyH_ready (rs := [1, 8]) (by kernel_rfl) (by simp) ?_
            refine rd_run 1 77 (.slice ka kn kc) rfl rfl (by kernel_rfl) (rd_loadK rfl (by kernel_rfl) hE1.nb.c37) hS1 ?_ ?_
            · refine wpAnyH_ready (rs := [8]) (by kernel_rfl) (by simp) ?_
              refine rd_run 8 84 (.slice (some ⟨u1.heap.size, 0, none⟩) 1 1) rfl rfl (by kernel_rfl) (rd_buildR rfl z hz.len (by kernel_rfl)) ⟨hE2.ib, hE2.bel⟩ ?_ AllReadyH.nil
              refine wpAnyH_ready (rs := [9]) (by kernel_rfl) (by simp) ?_
              refine rd_run 9 85 (.slice ka' kn' kc') rfl rfl (by kernel_rfl) (rd_app rfl (.slice ka kn kc) (.slice (some ⟨u1.heap.size, 0, none⟩) 1 1) (by kernel_rfl) (by kernel_rfl) hrun) ⟨hE3.ib, hE3.bel⟩ ?_ AllReadyH.nil
              refine rd_take 10 86 (.pointer (some ⟨w1.heap.size + 1, 37, none⟩)) rfl rfl (by kernel_rfl) (by kernel_rfl) (by kernel_rfl) (fun _ _ _ h => h) (by kernel_rfl) (fun v _ => by kernel_rfl) ⟨hE3.ib, hE3.bel⟩ ?_
              refine wpAnyH_ready (rs := [11]) (by kernel_rfl) (by simp) ?_
              refine rd_run0 11 rfl rfl (by kernel_rfl) (rd_storeRL rfl (w1.heap.size + 1) ka' kn' kc' _ (by kernel_rfl) (by kernel_rfl) hE3.nb.c37 hE3.nb.fz) ⟨hE4.ib, hE4.bel⟩ ?_ AllReadyH.nil
              refine wpAnyH_done (by kernel_rfl) ?_ _
              refine hkk _ _ ?_
              have HE4 := Hid.mk hE4
              have HSO4 := Hid.mk hSO4
              clear hkn hE4 hSO4 hE3 hE2 hE1 hE0 hS hS1 hso3 hb3 hrun hz hb1 hkk
              go_frame
              go_wp2_with fail
              exact ⟨⟨j + 1, ka', kn', kc', by omega, by simp, HE4.out, HSO4.out⟩, by simp [intOf]; omega⟩
            refine rd_run 8 84 (.slice (some ⟨u1.heap.size, 0, none⟩) 1 1) rfl rfl (by kernel_rfl) (rd_buildR rfl z hz.len (by kernel_rfl)) ⟨hE2.ib, hE2.bel⟩ ?_ AllReadyH.nil
            refine wpAnyH_ready (rs := [1]) (by kernel_rfl) (by simp) ?_
            refine rd_run 1 77 (.slice ka kn kc) rfl rfl (by kernel_rfl) (rd_loadK rfl (by kernel_rfl) hE2.nb.c37) ⟨hE2.ib, hE2.bel⟩ ?_ AllReadyH.nil
            refine wpAnyH_ready (rs := [9]) (by kernel_rfl) (by simp) ?_
            refine rd_run 9 85 (.slice ka' kn' kc') rfl rfl (by kernel_rfl) (rd_app rfl (.slice ka kn kc) (.slice (some ⟨u1.heap.size, 0, none⟩) 1 1) (by kernel_rfl) (by kernel_rfl) hrun) ⟨hE3.ib, hE3.bel⟩ ?_ AllReadyH.nil
            refine rd_take 10 86 (.pointer (some ⟨w1.heap.size + 1, 37, none⟩)) rfl rfl (by kernel_rfl) (by kernel_rfl) (by kernel_rfl) (fun _ _ _ h => h) (by kernel_rfl) (fun v _ => by kernel_rfl) ⟨hE3.ib, hE3.bel⟩ ?_
            refine wpAnyH_ready (rs := [11]) (by kernel_rfl) (by simp) ?_
            refine rd_run0 11 rfl rfl (by kernel_rfl) (rd_storeRL rfl (w1.heap.size + 1) ka' kn' kc' _ (by kernel_rfl) (by kernel_rfl) hE3.nb.c37 hE3.nb.fz) ⟨hE4.ib, hE4.bel⟩ ?_ AllReadyH.nil
            refine wpAnyH_done (by kernel_rfl) ?_ _
            refine hkk _ _ ?_
            have HE4 := Hid.mk hE4
            have HSO4 := Hid.mk hSO4
            clear hkn hE4 hSO4 hE3 hE2 hE1 hE0 hS hS1 hso3 hb3 hrun hz hb1 hkk
            go_frame
            go_wp2_with fail
            exact ⟨⟨j + 1, ka', kn', kc', by omega, by simp, HE4.out, HSO4.out⟩, by simp [intOf]; omega⟩
          · have hji : ¬ (j : Int) < 16 := by omega
            have hj16 : j = 16 := by omega
            subst hj16
            obtain ⟨ka', kc', hv', hk1, hk2, hk3, hk4⟩ := HSO.out.kids
            have hkl : ((its.take 16).map drefP).length = 16 := by rw [List.length_map, List.length_take, HL17.out]; rfl
            rw [hkl] at hv' hk1 hk3
            cases hv'
            obtain ⟨nn, hnn⟩ : ∃ nn : PN, nn = ⟨3, [], tt1.bs, r0, (its.take 16).map drefP⟩ := ⟨_, rfl⟩
            have hnd := HND.out
            rw [← hnn] at hnd
            clear HND
            have HND := Hid.mk hnd
            have HSW := Hid.mk HD1.out.sz
            have hv1 : AgK (OwnP (fun b => w.heap.size + 1 ≤ b) w1) w1 y1.ba y1.bn y1.bc tt1.bs := by obtain ⟨l, bs, its'⟩ := tt1; exact liesP_agk HA1.out.li
            have HNA := Hid.mk (show NodeAt (fun g => w.heap.size < g) wr ⟨3, none, 0, 0, y1.ba, y1.bn, y1.bc, rz, ka, 16, kc⟩ nn from by
              subst hnn
              exact ⟨rfl, agk_nil _ _, hv1.go (fun k hK hk => ⟨HE.out.bel.block k hk, by have := hK.1; omega⟩), refAt_zero _ _, ⟨hkl.symm, hk1, hk2, (by show (16 : Nat) ≤ _; omega), fun h => (by have := (hk3 h).1; omega)⟩, hk4.go (fun k hK hk => ⟨rfl, by have := HSW.out; omega⟩)⟩)
            have HDE := HE
            have vT_ : True := trivial
            clear hk1 hk2 hk3 hk4 hkl hnd hnn hv1 HE HSO
            go_upto_region 14 with fail
            have HEN := Hid.mk (rEncode_if _ ⟨3, none, 0, 0, y1.ba, y1.bn, y1.bc, rz, ka, 16, kc⟩ nn wr HNA.out (fun r hrr _ => HREC.out r.i (dd_sub HBB.out HQ.out (by rw [HITS.out, ← HM.out]; first | exact .inl H2.out | exact .inr H17.out) r (by rw [HND.out]; exact hrr))))
            have HOK := Hid.mk HNA.out.okN
            have HXL := Hid.mk HNA.out.c.len
            go_wp2_with (first | refine wpl_loadN rfl _ rfl (w1.heap.size + 1) rfl ⟨3, none, 0, 0, y1.ba, y1.bn, y1.bc, rz, ka, 16, kc⟩ HDE.out.nb ?_)
            refine HEN.out.mono ?_
            rintro e w5 ⟨⟨a5, m5, c5, rfl, hag5, -⟩, hb5⟩
            have HE5 := Hid.mk (HDE.out.go hb5)
            have HD5 := Hid.mk (HD1.out.go HE5.out.bel)
            have HN5 := Hid.mk (HNA.out.go (Keep.below hb5))
            have hr := HRES.out
            rw [dd_yes HBB.out HQ.out (by rw [HND.out]; exact HOK.out), HND.out] at hr
            obtain ⟨q, hqq⟩ : ∃ q, NR nn = q := ⟨_, rfl⟩
            rw [hqq] at hag5 hr ⊢
            have HQQ := Hid.mk hqq
            clear hb5 hqq HEN
            cases q with
            | false =>
              rw [if_neg (by simp)] at hr
              subst hr
              rw [if_neg (by simp)] at hag5 ⊢
              clear hag5
              go_upto_region 16 with fail
              go_wp2_with (first | refine wpList_store_row rfl 29 _ _ rfl _ nz.cells.toArray rfl rfl 29 _ HD5.out.row (infoN' rfl) (nz_size rfl) (all_oneCell_toArray (NV.one _)) ?_)
              refine bodyPost_ret (results_node Try.results17 _ _ w.heap.size nz rfl rfl (setRow_heap _ _ _ _ _ _ HD5.out.row)) rfl ?_
              exact ⟨Below.setRow HD5.out.bel (Nat.le_refl _) _, rfl⟩
            | true =>
              rw [if_pos rfl] at hag5 ⊢
              have k1 := conv_any hag5.i
              have k2 := conv_any (HAG.out.at HD5.out.bel).i
              have HS := Hid.mk (Ni.str_beq hag5.b HBB.out)
              generalize strOfNums (NE nn) = s1 at k1 HS
              generalize strOfNums b = s2 at k2 HS
              clear hag5
              by_cases heq : NE nn = b
              · rw [if_pos ⟨rfl, heq⟩] at hr
                subst hr
                have hss : (!s1.toList == s2.toList) = false := by rw [HS.out, decide_eq_true heq]; rfl
                clear heq
                go_upto_region 17 with fail
                go_wp2_with (first | refine wpl_loadN rfl _ rfl (w1.heap.size + 1) rfl ⟨3, none, 0, 0, y1.ba, y1.bn, y1.bc, rz, ka, 16, kc⟩ HE5.out.nb ?_ | refine wpList_store_row rfl 29 _ _ rfl _ (NV.cells ⟨3, none, 0, 0, y1.ba, y1.bn, y1.bc, rz, ka, 16, kc⟩).toArray rfl rfl 29 _ HD5.out.row (infoN' HXL.out) (nz_size HXL.out) (all_oneCell_toArray (NV.one _)) ?_)
                refine bodyPost_ret (results_node Try.results17 _ _ w.heap.size ⟨3, none, 0, 0, y1.ba, y1.bn, y1.bc, rz, ka, 16, kc⟩ HXL.out rfl (setRow_heap _ _ _ _ _ _ HD5.out.row)) rfl ?_
                exact ⟨Below.setRow HD5.out.bel (Nat.le_refl _) _, ⟨3, none, 0, 0, y1.ba, y1.bn, y1.bc, rz, ka, 16, kc⟩, rfl, HN5.out.go fun k hK hk => ⟨setRow_other _ _ _ _ (by omega), Nat.le_of_lt hK⟩⟩
              · rw [if_neg (fun h => heq h.2)] at hr
                subst hr
                have hss : (!s1.toList == s2.toList) = true := by rw [HS.out, decide_eq_false heq]; rfl
                clear heq
                go_upto_region 16 with fail
                go_wp2_with (first | refine wpList_store_row rfl 29 _ _ rfl _ nz.cells.toArray rfl rfl 29 _ HD5.out.row (infoN' rfl) (nz_size rfl) (all_oneCell_toArray (NV.one _)) ?_)
                refine bodyPost_ret (results_node Try.results17 _ _ w.heap.size nz rfl rfl (setRow_heap _ _ _ _ _ _ HD5.out.row)) rfl ?_
                exact ⟨Below.setRow HD5.out.bel (Nat.le_refl _) _, rfl⟩
      · have hr := HRES.out
        rw [dd_no HBB.out HQ.out (by rw [HITS.out, ← HM.out]; omega)] at hr
        subst hr
        have c2 := HB2.out.c2
        have e2 : ((y.m : Int) != 2) = true := by rw [bne_iff_ne]; omega
        have e17 : ((y.m : Int) != 17) = true := by rw [bne_iff_ne]; omega
        have HD2 := Hid.mk (HD1.out.go HBL.out)
        go_wp2_with (first | refine wpList_store_row rfl 29 _ _ rfl _ nz.cells.toArray rfl rfl 29 _ HD2.out.row (infoN' rfl) (nz_size rfl) (all_oneCell_toArray (NV.one _)) ?_)
        refine bodyPost_ret (results_node Try.results17 _ _ w.heap.size nz rfl rfl (setRow_heap _ _ _ _ _ _ HD2.out.row)) rfl ?_
        exact ⟨Below.setRow HD2.out.bel (Nat.le_refl _) _, rfl⟩
theorem ddecode_all : ∀ (L : Nat) (b : List Int), b.length ≤ L → DDSaid b := by
  intro L
  induction L using Nat.strongRecOn with
  | _ L ih =>
    intro b hL
    exact ddecode_step b fun i h1 => ih i.length (by omega) i (Nat.le_refl _)
/-- What the document's Decode answers. -/
theorem rdecode_any (b : List Int) : DDSaid b := ddecode_all b.length b (Nat.le_refl _)
theorem rright_any (K : Nat → Prop) (x : NV) (n : PN) (w : World) (h : NodeAt K w x n) : Calls Try.prog 12 #[.agg x.cells.toArray] w fun e w' => e = .returned (.bool (NR n)) ∧ Below w.heap.size w w' := rRightIf K x n w h fun r _ _ => rdecode_any r.i
theorem rnencode_any (K : Nat → Prop) (x : NV) (n : PN) (w : World) (h : NodeAt K w x n) : Calls Try.prog 15 #[.agg x.cells.toArray] w (EEPost w n) := rEncode_if K x n w h fun r _ _ => rdecode_any r.i
end Go.Proofs.Ytamibjgahcpkcaa
/- What one round, the xor of four words, and the eight rounds of package digest (functions round, xor, stir) answer, for every input; and the plain functions that say it. -/
namespace Go.Proofs.Ytamibjgahcpkcaa.Di
set_option maxRecDepth 100000
open Go.RowKit
/-- Four words. -/
structure S4 where
  a : Int
  b : Int
  c : Int
  d : Int
def wr (x : Int) : Int := IntKind.u64.wrap x
def rotl (x k : Int) : Int := bits BinOp.or IntKind.u64 (IntKind.u64.wrap (x * 2 ^ k.toNat)) (x / 2 ^ (64 - k).toNat)
def xr (x y : Int) : Int := bits BinOp.xor IntKind.u64 x y
def rnd (s : S4) (x : Int) : S4 :=
  let a := wr (s.a + wr (s.b + x))
  let d := rotl (xr s.d a) 32
  let c := wr (s.c + d)
  let b := rotl (xr s.b c) 24
  let a := wr (a + b)
  let d := rotl (xr d a) 16
  let c := wr (c + d)
  let b := rotl (xr b c) 63
  ⟨b, c, d, a⟩
def xor4 (s m : S4) : S4 := ⟨xr s.a m.a, xr s.b m.b, xr s.c m.c, xr s.d m.d⟩
def kk : Int := 11400714819323198485
def stir (s m : S4) : S4 :=
  let s := rnd s (wr (m.a + wr (1 * kk)))
  let s := rnd s (wr (m.b + wr (2 * kk)))
  let s := rnd s (wr (m.c + wr (3 * kk)))
  let s := rnd s (wr (m.d + wr (4 * kk)))
  let s := rnd s (wr (m.a + wr (5 * kk)))
  let s := rnd s (wr (m.b + wr (6 * kk)))
  let s := rnd s (wr (m.c + wr (7 * kk)))
  rnd s (wr (m.d + wr (8 * kk)))
def mix (s m : S4) : S4 := xor4 (stir (xor4 s m) m) s
theorem b32 : bits BinOp.and IntKind.u64 32 63 = 32 := by decide
theorem b24 : bits BinOp.and IntKind.u64 24 63 = 24 := by decide
theorem b16 : bits BinOp.and IntKind.u64 16 63 = 16 := by decide
theorem b63 : bits BinOp.and IntKind.u64 63 63 = 63 := by decide
set_option maxHeartbeats 400000 in
theorem rotc (x : Int) (w : World) (k : Int) (hk0 : 0 ≤ k) (hk1 : k < 64) (hkk : bits BinOp.and IntKind.u64 k 63 = k) :
    Calls Try.prog 96 #[.int .u64 x, .int .i64 k] w fun e w' => e = .returned (.int .u64 (rotl x k)) ∧ w' = w := by
  go_enter Try.func96, Try.ntmps96
  go_wp2
  go_ret
  exact ⟨rfl, rfl⟩

set_option maxHeartbeats 400000 in
theorem round_any (a b c d x : Int) (w : World) :
    Calls Try.prog 95 #[.agg #[.int .u64 a, .int .u64 b, .int .u64 c, .int .u64 d], .int .u64 x] w fun e w' => (∃ a' b' c' d', e = .returned (.agg #[.int .u64 a', .int .u64 b', .int .u64 c', .int .u64 d']) ∧ Hid (S4.mk a' b' c' d' = rnd ⟨a, b, c, d⟩ x)) ∧ Below w.heap.size w w' := by
  go_enter Try.func95, Try.ntmps95
  go_wp2_with fail
  go_quiet (fail)
  go_wp2_with (first | (go_at_call 96; refine (rotc _ _ _ (by omega) (by omega) (by first | exact b32 | exact b24 | exact b16 | exact b63)).mono ?_; rintro e w' ⟨rfl, rfl⟩))
  go_returns
  refine ⟨⟨_, _, _, _, rfl, rfl⟩, ?_⟩
  repeat' (first | refine Below.setCell ?_ (by simp <;> omega) _ | refine below_drewN ?_ _ | refine Below.alloc ?_ (by simp <;> omega) _ | exact Below.refl _ _)

set_option maxHeartbeats 400000 in
theorem xor_any (a b c d x y z u : Int) (w : World) :
    Calls Try.prog 93 #[.agg #[.int .u64 a, .int .u64 b, .int .u64 c, .int .u64 d], .agg #[.int .u64 x, .int .u64 y, .int .u64 z, .int .u64 u]] w fun e w' => (∃ a' b' c' d', e = .returned (.agg #[.int .u64 a', .int .u64 b', .int .u64 c', .int .u64 d']) ∧ Hid (S4.mk a' b' c' d' = xor4 ⟨a, b, c, d⟩ ⟨x, y, z, u⟩)) ∧ Below w.heap.size w w' := by
  have i0 : ∀ (w : World) (x0 x1 x2 x3 : Value), (Instr.index 78 (.agg #[x0, x1, x2, x3]) (.int .i64 0)).run Try.prog w = .ok x0 w := fun _ _ _ _ _ => by kernel_rfl
  have i1 : ∀ (w : World) (x0 x1 x2 x3 : Value), (Instr.index 78 (.agg #[x0, x1, x2, x3]) (.int .i64 1)).run Try.prog w = .ok x1 w := fun _ _ _ _ _ => by kernel_rfl
  have i2 : ∀ (w : World) (x0 x1 x2 x3 : Value), (Instr.index 78 (.agg #[x0, x1, x2, x3]) (.int .i64 2)).run Try.prog w = .ok x2 w := fun _ _ _ _ _ => by kernel_rfl
  have i3 : ∀ (w : World) (x0 x1 x2 x3 : Value), (Instr.index 78 (.agg #[x0, x1, x2, x3]) (.int .i64 3)).run Try.prog w = .ok x3 w := fun _ _ _ _ _ => by kernel_rfl
  go_enter Try.func93, Try.ntmps93
  go_wp2
  go_rounds 5
  go_returns
  refine ⟨⟨_, _, _, _, rfl, rfl⟩, ?_⟩
  repeat' (first | refine Below.setCell ?_ (by simp <;> omega) _ | refine below_drewN ?_ _ | refine Below.alloc ?_ (by simp <;> omega) _ | exact Below.refl _ _)

/-- Three new blocks of four words each, from block n on; what was there ahead of them is as it was. -/
structure Rows3 (n : Nat) (w0 w : World) (r2 r3 r4 : Array Value) : Prop where
  h2 : w.heap[n]? = some (.cells r2 78)
  h3 : w.heap[n + 1]? = some (.cells r3 78)
  h4 : w.heap[n + 1 + 1]? = some (.cells r4 78)
  bel : Below n w0 w
theorem Hid.mk {p : Prop} (h : p) : Hid p := h
theorem lt_of_get {α : Type} {xs : Array α} {i : Nat} {x : α} (h : xs[i]? = some x) : i < xs.size := (Array.getElem?_eq_some_iff.1 h).1
theorem Rows3.call {n : Nat} {w0 v w1 : World} {r2 r3 r4 : Array Value} (h : Rows3 n w0 v r2 r3 r4) (hb : Below v.heap.size v w1) : Rows3 n w0 w1 r2 r3 r4 := by
  have l := lt_of_get h.h4
  exact ⟨(hb.block _ (by omega)).trans h.h2, (hb.block _ (by omega)).trans h.h3, (hb.block _ (by omega)).trans h.h4, h.bel.trans (hb.mono (by omega))⟩
theorem cells4 {w : World} {g t : Nat} {x0 x1 x2 x3 : Value} (h : w.heap[g]? = some (.cells #[x0, x1, x2, x3] t)) :
    w.cell? ⟨g, 0, none⟩ = some x0 ∧ w.cell? ⟨g, 1, none⟩ = some x1 ∧ w.cell? ⟨g, 2, none⟩ = some x2 ∧ w.cell? ⟨g, 3, none⟩ = some x3 ∧ ∀ o, w.frozen? ⟨g, o, none⟩ = false :=
  ⟨by simp [World.cell?, h], by simp [World.cell?, h], by simp [World.cell?, h], by simp [World.cell?, h], fun o => frozen_of_row w g o _ t h⟩
theorem put4 {w : World} {g t : Nat} {x0 x1 x2 x3 : Value} (h : w.heap[g]? = some (.cells #[x0, x1, x2, x3] t)) (a b c d : Value) :
    ((((w.setCell ⟨g, 0, none⟩ a).setCell ⟨g, 1, none⟩ b).setCell ⟨g, 2, none⟩ c).setCell ⟨g, 3, none⟩ d).heap[g]? = some (.cells #[a, b, c, d] t) := by
  have h1 := heap_setCell_same w g 0 _ t a h
  have h2 := heap_setCell_same _ g 1 _ t b h1
  have h3 := heap_setCell_same _ g 2 _ t c h2
  have h4 := heap_setCell_same _ g 3 _ t d h3
  simpa using h4
theorem other4 {w : World} {g k : Nat} (hk : k ≠ g) (a b c d : Value) :
    ((((w.setCell ⟨g, 0, none⟩ a).setCell ⟨g, 1, none⟩ b).setCell ⟨g, 2, none⟩ c).setCell ⟨g, 3, none⟩ d).heap[k]? = w.heap[k]? := by
  rw [heap_setCell_other _ _ _ _ hk, heap_setCell_other _ _ _ _ hk, heap_setCell_other _ _ _ _ hk, heap_setCell_other _ _ _ _ hk]
theorem below4 {B : Nat} {w0 w : World} {g : Nat} (h : Below B w0 w) (hg : B ≤ g) (a b c d : Value) :
    Below B w0 ((((w.setCell ⟨g, 0, none⟩ a).setCell ⟨g, 1, none⟩ b).setCell ⟨g, 2, none⟩ c).setCell ⟨g, 3, none⟩ d) :=
  (((h.setCell hg a).setCell hg b).setCell hg c).setCell hg d
theorem Rows3.put {n : Nat} {w0 w : World} {x0 x1 x2 x3 : Value} {r3 r4 : Array Value} (h : Rows3 n w0 w #[x0, x1, x2, x3] r3 r4) (a b c d : Value) :
    Rows3 n w0 ((((w.setCell ⟨n, 0, none⟩ a).setCell ⟨n, 1, none⟩ b).setCell ⟨n, 2, none⟩ c).setCell ⟨n, 3, none⟩ d) #[a, b, c, d] r3 r4 :=
  ⟨put4 h.h2 a b c d, (other4 (by omega) a b c d).trans h.h3, (other4 (by omega) a b c d).trans h.h4, below4 h.bel (Nat.le_refl _) a b c d⟩
theorem rows3_new (w : World) (A B C : Array Value) : Rows3 w.heap.size w (((w.alloc (.cells A 78)).alloc (.cells B 78)).alloc (.cells C 78)) A B C := by
  have s1 : (w.alloc (.cells A 78)).heap.size = w.heap.size + 1 := by simp
  have s2 : ((w.alloc (.cells A 78)).alloc (.cells B 78)).heap.size = w.heap.size + 1 + 1 := by simp
  have h1 := heap_alloc_new w (.cells A 78)
  have h2 := heap_alloc_new (w.alloc (.cells A 78)) (.cells B 78)
  have h3 := heap_alloc_new ((w.alloc (.cells A 78)).alloc (.cells B 78)) (.cells C 78)
  rw [s1] at h2
  rw [s2] at h3
  exact ⟨by rw [Below.heap_alloc _ _ _ (by omega), Below.heap_alloc _ _ _ (by omega)]; exact h1, by rw [Below.heap_alloc _ _ _ (by omega)]; exact h2, h3,
   (((Below.refl _ _).alloc (Nat.le_refl _) _).alloc (by omega) _).alloc (by omega) _⟩
theorem Rows3.drew {n : Nat} {w0 w : World} {r2 r3 r4 : Array Value} (h : Rows3 n w0 w r2 r3 r4) : Rows3 n w0 w.drew r2 r3 r4 := ⟨h.h2, h.h3, h.h4, h.bel.drew⟩
theorem Rows3.alloc {n : Nat} {w0 w : World} {r2 r3 r4 : Array Value} (h : Rows3 n w0 w r2 r3 r4) (o : Obj) : Rows3 n w0 (w.alloc o) r2 r3 r4 := by
  have l := lt_of_get h.h4
  exact ⟨(Below.heap_alloc _ _ _ (by omega)).trans h.h2, (Below.heap_alloc _ _ _ (by omega)).trans h.h3, (Below.heap_alloc _ _ _ (by omega)).trans h.h4, h.bel.alloc (by omega) _⟩
theorem Rows3.size {n : Nat} {w0 w : World} {r2 r3 r4 : Array Value} (h : Rows3 n w0 w r2 r3 r4) : n + 1 + 1 < w.heap.size := lt_of_get h.h4
theorem Rows3.putAt {n : Nat} {w0 w : World} {r2 r3 r4 : Array Value} (h : Rows3 n w0 w r2 r3 r4) {g : Nat} (hg : n + 1 + 1 < g) (a b c d : Value) :
    Rows3 n w0 ((((w.setCell ⟨g, 0, none⟩ a).setCell ⟨g, 1, none⟩ b).setCell ⟨g, 2, none⟩ c).setCell ⟨g, 3, none⟩ d) r2 r3 r4 :=
  ⟨(other4 (by omega) a b c d).trans h.h2, (other4 (by omega) a b c d).trans h.h3, (other4 (by omega) a b c d).trans h.h4, below4 h.bel (by omega) a b c d⟩
theorem Below.row {W w1 : World} (hb : Below W.heap.size W w1) {g : Nat} {o : Obj} (h : W.heap[g]? = some o) : w1.heap[g]? = some o := (hb.block g (lt_of_get h)).trans h
theorem Rows3.sizes {n : Nat} {w0 w : World} {r2 r3 r4 : Array Value} (h : Rows3 n w0 w r2 r3 r4) : n < w.heap.size ∧ n + 1 < w.heap.size ∧ n + 1 + 1 < w.heap.size := by
  have l := lt_of_get h.h4
  omega
theorem rows3_fourth (w : World) (A B C D : Obj) : Hid ((((((w.alloc A).alloc B).alloc C).alloc D).heap[w.heap.size + 1 + 1 + 1]?) = some D) := by
  have s3 : (((w.alloc A).alloc B).alloc C).heap.size = w.heap.size + 1 + 1 + 1 := by simp
  have h := heap_alloc_new (((w.alloc A).alloc B).alloc C) D
  rw [s3] at h
  exact h
theorem stir_of {a b c d x y z u : Int} {s1 s2 s3 s4 s5 s6 s7 s8 : S4}
    (h1 : s1 = rnd ⟨a, b, c, d⟩ (IntKind.u64.wrap (x + 11400714819323198485)))
    (h2 : s2 = rnd s1 (IntKind.u64.wrap (y + IntKind.u64.wrap 22801429638646396970)))
    (h3 : s3 = rnd s2 (IntKind.u64.wrap (z + IntKind.u64.wrap 34202144457969595455)))
    (h4 : s4 = rnd s3 (IntKind.u64.wrap (u + IntKind.u64.wrap 45602859277292793940)))
    (h5 : s5 = rnd s4 (IntKind.u64.wrap (x + IntKind.u64.wrap 57003574096615992425)))
    (h6 : s6 = rnd s5 (IntKind.u64.wrap (y + IntKind.u64.wrap 68404288915939190910)))
    (h7 : s7 = rnd s6 (IntKind.u64.wrap (z + IntKind.u64.wrap 79805003735262389395)))
    (h8 : s8 = rnd s7 (IntKind.u64.wrap (u + IntKind.u64.wrap 91205718554585587880))) : s8 = stir ⟨a, b, c, d⟩ ⟨x, y, z, u⟩ := by
  rw [h8, h7, h6, h5, h4, h3, h2, h1]
  have e1 : wr (1 * kk) = 11400714819323198485 := by unfold wr kk; rw [IntKind.wrap_u64]; rfl
  unfold stir
  rw [e1]
  rfl
set_option maxHeartbeats 4000000 in
theorem stir_any (a b c d x y z u : Int) (w : World) :
    Calls Try.prog 92 #[.agg #[.int .u64 a, .int .u64 b, .int .u64 c, .int .u64 d], .agg #[.int .u64 x, .int .u64 y, .int .u64 z, .int .u64 u]] w fun e w' => (∃ a' b' c' d', e = .returned (.agg #[.int .u64 a', .int .u64 b', .int .u64 c', .int .u64 d']) ∧ Hid (S4.mk a' b' c' d' = stir ⟨a, b, c, d⟩ ⟨x, y, z, u⟩)) ∧ Below w.heap.size w w' := by
  have i0 : ∀ (w : World) (x0 x1 x2 x3 : Value), (Instr.index 78 (.agg #[x0, x1, x2, x3]) (.int .i64 0)).run Try.prog w = .ok x0 w := fun _ _ _ _ _ => by kernel_rfl
  have i1 : ∀ (w : World) (x0 x1 x2 x3 : Value), (Instr.index 78 (.agg #[x0, x1, x2, x3]) (.int .i64 1)).run Try.prog w = .ok x1 w := fun _ _ _ _ _ => by kernel_rfl
  have i2 : ∀ (w : World) (x0 x1 x2 x3 : Value), (Instr.index 78 (.agg #[x0, x1, x2, x3]) (.int .i64 2)).run Try.prog w = .ok x2 w := fun _ _ _ _ _ => by kernel_rfl
  have i3 : ∀ (w : World) (x0 x1 x2 x3 : Value), (Instr.index 78 (.agg #[x0, x1, x2, x3]) (.int .i64 3)).run Try.prog w = .ok x3 w := fun _ _ _ _ _ => by kernel_rfl
  have R0 := rows3_new w #[.int .u64 a, .int .u64 b, .int .u64 c, .int .u64 d] #[.int .u64 x, .int .u64 y, .int .u64 z, .int .u64 u] #[.int .u64 0, .int .u64 0, .int .u64 0, .int .u64 0]
  go_enter Try.func92, Try.ntmps92
  go_wp2
  go_step3
  go_wp2
  go_step3
  go_wp2
  refine wp_loop_rounds 2 ?_
  rw [rounds_succ]
  go_wp2
  refine wp_loop_rounds 5 ?_
  rw [rounds_succ]
  go_wp2_with fail
  refine (round_any _ _ _ _ _ _).mono ?_
  rintro e w1 ⟨⟨a1, b1, c1, d1, rfl, H1⟩, hb1⟩
  have S1 := Rows3.call R0 hb1
  obtain ⟨p1, q1, r1, s1, f1⟩ := cells4 S1.h2
  clear hb1
  go_wp2_with fail
  have R1 := Rows3.put S1 (.int .u64 a1) (.int .u64 b1) (.int .u64 c1) (.int .u64 d1)
  rw [rounds_succ]
  go_wp2_with fail
  refine (round_any _ _ _ _ _ _).mono ?_
  rintro e w2 ⟨⟨a2, b2, c2, d2, rfl, H2⟩, hb2⟩
  clear p1 q1 r1 s1 f1
  have S2 := Rows3.call R1 hb2
  obtain ⟨p2, q2, r2, s2, f2⟩ := cells4 S2.h2
  clear hb2
  go_wp2_with fail
  have R2 := Rows3.put S2 (.int .u64 a2) (.int .u64 b2) (.int .u64 c2) (.int .u64 d2)
  rw [rounds_succ]
  go_wp2_with fail
  refine (round_any _ _ _ _ _ _).mono ?_
  rintro e w3 ⟨⟨a3, b3, c3, d3, rfl, H3⟩, hb3⟩
  clear p2 q2 r2 s2 f2
  have S3 := Rows3.call R2 hb3
  obtain ⟨p3, q3, r3, s3, f3⟩ := cells4 S3.h2
  clear hb3
  go_wp2_with fail
  have R3 := Rows3.put S3 (.int .u64 a3) (.int .u64 b3) (.int .u64 c3) (.int .u64 d3)
  rw [rounds_succ]
  go_wp2_with fail
  refine (round_any _ _ _ _ _ _).mono ?_
  rintro e w4 ⟨⟨a4, b4, c4, d4, rfl, H4⟩, hb4⟩
  clear p3 q3 r3 s3 f3
  have S4 := Rows3.call R3 hb4
  obtain ⟨p4, q4, r4, s4, f4⟩ := cells4 S4.h2
  clear hb4
  go_wp2_with fail
  have R4 := Rows3.put S4 (.int .u64 a4) (.int .u64 b4) (.int .u64 c4) (.int .u64 d4)
  rw [rounds_succ]
  go_wp2_with fail
  rw [rounds_succ]
  obtain ⟨p0, q0, r0, s0, _⟩ := cells4 R4.h3
  go_wp2_with fail
  refine wp_loop_rounds 5 ?_
  rw [rounds_succ]
  go_wp2_with fail
  refine (round_any _ _ _ _ _ _).mono ?_
  rintro e w5 ⟨⟨a5, b5, c5, d5, rfl, H5⟩, hb5⟩
  clear p4 q4 r4 s4 f4
  clear p0 q0 r0 s0
  have S5 := Rows3.call R4 hb5
  obtain ⟨p5, q5, r5, s5, f5⟩ := cells4 S5.h2
  clear hb5
  go_wp2_with fail
  have R5 := Rows3.put S5 (.int .u64 a5) (.int .u64 b5) (.int .u64 c5) (.int .u64 d5)
  rw [rounds_succ]
  go_wp2_with fail
  refine (round_any _ _ _ _ _ _).mono ?_
  rintro e w6 ⟨⟨a6, b6, c6, d6, rfl, H6⟩, hb6⟩
  clear p5 q5 r5 s5 f5
  have S6 := Rows3.call R5 hb6
  obtain ⟨p6, q6, r6, s6, f6⟩ := cells4 S6.h2
  clear hb6
  go_wp2_with fail
  have R6 := Rows3.put S6 (.int .u64 a6) (.int .u64 b6) (.int .u64 c6) (.int .u64 d6)
  rw [rounds_succ]
  go_wp2_with fail
  refine (round_any _ _ _ _ _ _).mono ?_
  rintro e w7 ⟨⟨a7, b7, c7, d7, rfl, H7⟩, hb7⟩
  clear p6 q6 r6 s6 f6
  have S7 := Rows3.call R6 hb7
  obtain ⟨p7, q7, r7, s7, f7⟩ := cells4 S7.h2
  clear hb7
  go_wp2_with fail
  have R7 := Rows3.put S7 (.int .u64 a7) (.int .u64 b7) (.int .u64 c7) (.int .u64 d7)
  rw [rounds_succ]
  go_wp2_with fail
  refine (round_any _ _ _ _ _ _).mono ?_
  rintro e w8 ⟨⟨a8, b8, c8, d8, rfl, H8⟩, hb8⟩
  clear p7 q7 r7 s7 f7
  have S8 := Rows3.call R7 hb8
  obtain ⟨p8, q8, r8, s8, f8⟩ := cells4 S8.h2
  clear hb8
  obtain ⟨p9, q9, r9, s9, f9⟩ := cells4 S8.h4
  go_wp2_with fail
  rw [Exit.noGoto_ret]
  have T8 := Rows3.put S8 (.int .u64 a8) (.int .u64 b8) (.int .u64 c8) (.int .u64 d8)
  have hrow := put4 T8.h4 (.int .u64 a8) (.int .u64 b8) (.int .u64 c8) (.int .u64 d8)
  refine bodyPost_ret (results_cell_row Try.results92 _ _ (w.heap.size + 1 + 1) 78 #[.int .u64 a8, .int .u64 b8, .int .u64 c8, .int .u64 d8] (0, 0) _ rfl hrow Try.underlying78 rfl (by kernel_rfl)) rfl ?_
  exact ⟨⟨_, _, _, _, rfl, stir_of H1.out H2.out H3.out H4.out H5.out H6.out H7.out H8.out⟩, below4 T8.bel (by omega) _ _ _ _⟩
end Go.Proofs.Ytamibjgahcpkcaa.Di

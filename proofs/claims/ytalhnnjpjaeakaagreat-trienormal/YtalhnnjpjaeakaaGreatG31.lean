/- What a writer writes: branches, trees. -/
import Derived.Test.YtalhnnjpjaeakaaGreatG30
import Derived.Test.YtalhnnjpjaeakaaGreatG00
import Derived.Test.YtalhnnjpjaeakaaGreatG29
namespace Go.Proofs.YtalhnnjpjaeakaaGreat
open Go.RowKit
open Tr
set_option linter.unusedVariables false
set_option maxRecDepth 100000
def rP (k : Nat → Tr) (i : Nat) : PR := if (k i).isNo then r0 else referP (encT (k i))
def nmK (k : Nat → Tr) (i : Nat) : List (List Int) := if (k i).isNo then [] else nmd (k i) ++ nm1 (encT (k i))
def nmJ (k : Nat → Tr) (j : Nat) : List (List Int) := (List.range j).flatMap (nmK k)
theorem nmJ_succ (k : Nat → Tr) (j : Nat) : nmJ k (j + 1) = nmJ k j ++ nmK k j := by simp [nmJ, List.range_succ, List.flatMap_append]
theorem nmJ_mono (k : Nat → Tr) (i : Nat) : ∀ d, (nmJ k i).length ≤ (nmJ k (i + d)).length
  | 0 => Nat.le_refl _
  | d + 1 => by rw [← Nat.add_assoc, nmJ_succ, List.length_append]; have := nmJ_mono k i d; omega
theorem built_N3f' : (fun (va : Option Addr) (vn vc : Nat) (ka : Option Addr) (kn kc : Nat) => Tryz.prog.built 92 [(0, .int .i64 3), (4, .slice ka kn kc), (2, .slice va vn vc)]) = fun va vn vc ka kn kc => some (NV.cells ⟨3, none, 0, 0, va, vn, vc, rz, ka, kn, kc⟩).toArray := by kernel_rfl
theorem built_N3' (va : Option Addr) (vn vc : Nat) (ka : Option Addr) (kn kc : Nat) : Tryz.prog.built 92 [(0, .int .i64 3), (4, .slice ka kn kc), (2, .slice va vn vc)] = some (NV.cells ⟨3, none, 0, 0, va, vn, vc, rz, ka, kn, kc⟩).toArray := congrFun (congrFun (congrFun (congrFun (congrFun (congrFun built_N3f' va) vn) vc) ka) kn) kc
def RFS (t : Tr) : Prop := ∀ {v : World} {gW base : Nat} {vM : Value} {Y Z : Nat → Prop} {ns : List (List Int)} {val : Value}, TA (KW gW vM Z) v t val → Wt v gW base vM Y ns → (∀ b, v.heap.size ≤ b → Y b) → (ns ++ nmd t).length + 1 ≤ 7600000000000 → Calls Tryz.prog 186 #[.pointer (some ⟨gW, 0, none⟩), val] v fun e w' => ∃ u, e = .returned u ∧ RRf v gW base vM Y ns t u w'
/-- While a branch's kids are written. -/
structure BI (w : World) (gW base : Nat) (vN : Value) (X : Nat → Prop) (ns : List (List Int)) (k : Nat → Tr) (vs : Nat → Value) (a : Option Addr) (n c : Nat) (x : List Int) (gB gN gK : Nat) (j : Nat) (vM : Value) (ys : Nat → RV) (v : World) : Prop where
  hrB : Rw gB v (brc vs (.slice a n c)) 215
  hrN : Rw gN v nz.cells.toArray 92
  hK : Kr gK v ys
  hk : TK (KW gW vM (fun b => b < w.heap.size)) v k vs
  hx : Sk (KW gW vM (fun b => b < w.heap.size)) v a n c x
  hr : ∀ i, i < 16 → Rf (KW gW vM (fun b => gK < b)) v (ys i) (if i < j then rP k i else r0)
  hW : Wt v gW base vM (fun b => X b ∧ b ≠ gN ∧ b ≠ gK) (ns ++ nmJ k j)
  hG : Wg w v gW vN vM
theorem BI.skip {w : World} {gW base : Nat} {vN : Value} {X : Nat → Prop} {ns : List (List Int)} {k : Nat → Tr} {vs : Nat → Value} {a : Option Addr} {n c : Nat} {x : List Int} {gB gN gK j : Nat} {vM : Value} {ys : Nat → RV} {v : World} (h : BI w gW base vN X ns k vs a n c x gB gN gK j vM ys v) (hno : (k j).isNo = true) : BI w gW base vN X ns k vs a n c x gB gN gK (j + 1) vM ys v := by
  refine ⟨h.hrB, h.hrN, h.hK, h.hk, h.hx, fun i hi => ?_, by rw [nmJ_succ, show nmK k j = [] from by unfold nmK; rw [if_pos hno], List.append_nil]; exact h.hW, h.hG⟩
  have := h.hr i hi
  by_cases e : i = j
  · subst e
    rw [if_neg (by omega)] at this
    rw [if_pos (by omega), show rP k i = r0 from by unfold rP; rw [if_pos hno]]
    exact this
  · by_cases h1 : i < j
    · rw [if_pos h1] at this; rw [if_pos (by omega)]; exact this
    · rw [if_neg h1] at this; rw [if_neg (by omega)]; exact this
theorem BI.step {w : World} {gW base : Nat} {vN : Value} {X : Nat → Prop} {ns : List (List Int)} {k : Nat → Tr} {vs : Nat → Value} {a : Option Addr} {n c : Nat} {x : List Int} {gB gN gK j : Nat} {vM : Value} {ys : Nat → RV} {v : World} (h : BI w gW base vN X ns k vs a n c x gB gN gK j vM ys v) (hj : j < 16) (hno : (k j).isNo = false) (hg1 : w.heap.size ≤ gB) (hg2 : gB < gN) (hg3 : gN < gK)
    {y : RV} {vP : Value} {u : World} (hRf : Rf (KW gW vP (fun b => v.heap.size < b)) u y (referP (encT (k j)))) (hW : Wt u gW base vP (fun b => X b ∧ b ≠ gN ∧ b ≠ gK) ((ns ++ nmJ k j) ++ (nmd (k j) ++ nm1 (encT (k j))))) (hG : Wg v u gW vM vP) : Kr gK u ys ∧ BI w gW base vN X ns k vs a n c x gB gN gK (j + 1) vP (updR ys j y) (u.setCells gK (0 + j * 34) y.cells) := by
  have hKu := h.hK.wg hG h.hW
  have hlt := h.hK.lt
  have hst := St.of u gK (0 + j * 34) y.cells
  have hyl := hRf.at'.len
  obtain ⟨cur, hc1, hc2⟩ := hKu.row
  refine ⟨hKu, (h.hrB.wg hG h.hW (by decide) (by decide)).st hst (by omega), (h.hrN.wg hG h.hW (by decide) (by decide)).st hst (by omega), hKu.put hj hyl, (h.hk.wg hG).st hst (fun b hb => by have := hb.2.2; omega), (h.hx.wg hG).st hst (fun b hb => by have := hb.2.2; omega), fun i hi => ?_, ?_, (h.hG.trans hG).st hst (by omega)⟩
  · by_cases e : i = j
    · subst e
      rw [if_pos (by omega), show updR ys i y i = y from by simp [updR], show rP k i = referP (encT (k i)) from by unfold rP; rw [if_neg (by simp [hno])]]
      exact (hRf.mono (fun b hb => ⟨hb.1, hb.2.1, by have := hb.2.2; omega⟩)).st hst (fun b hb => by have := hb.2.2; omega)
    · rw [show updR ys j y i = ys i from by simp [updR, e]]
      have q := ((h.hr i hi).wg hG).st hst (fun b hb => by have := hb.2.2; omega)
      by_cases h1 : i < j
      · rw [if_pos h1] at q; rw [if_pos (by omega)]; exact q
      · rw [if_neg h1] at q; rw [if_neg (by omega)]; exact q
  · have e : ns ++ nmJ k (j + 1) = (ns ++ nmJ k j) ++ (nmd (k j) ++ nm1 (encT (k j))) := by rw [nmJ_succ, show nmK k j = nmd (k j) ++ nm1 (encT (k j)) from by unfold nmK; rw [if_neg (by simp [hno])], List.append_assoc]
    rw [e]
    exact hW.st hc1 (by decide) (by decide) (fun b hb => hb.2.2) hst
theorem ref_zeroK (K : Nat → Prop) (w : World) : RefAt K w rz r0 := ⟨rfl, rfl, (ref_zero w).2.2.1, rfl, ⟨.inl ⟨rfl, rfl⟩, fun _ => ⟨rfl, rfl⟩, rfl, fun x hx => by cases hx⟩, Nat.zero_le _, fun _ _ e => by cases e⟩
theorem kids_at {K : Nat → Prop} {w : World} {gK : Nat} {ys : Nat → RV} {k : Nat → Tr} {x : List Int} (h : Kr gK w ys) (hr : ∀ i, i < 16 → Rf K w (ys i) (if i < 16 then rP k i else r0)) : KidsAt (fun _ => True) w (some ⟨gK, 0, none⟩) (nodeP (br k x)).ks := by
  intro j r hj
  have hl : j < 16 := by have := (List.getElem?_eq_some_iff.1 hj).1; simpa [nodeP] using this
  have e : r = rP k j := by
    simp only [nodeP] at hj
    rw [List.getElem?_map, List.getElem?_range hl] at hj
    simp at hj
    rw [← hj]; rfl
  have q := hr j hl
  rw [if_pos hl] at q
  exact ⟨gK, 0, ys j, rfl, trivial, h.rng j hl, by rw [e]; exact q.at'.go (fun b hb _ => ⟨rfl, trivial⟩)⟩
set_option maxHeartbeats 4000000 in
theorem bnode_any {w : World} {gW base : Nat} {vN : Value} {X : Nat → Prop} {ns : List (List Int)} (hW : Wt w gW base vN X ns) {Z : Nat → Prop} {a : Option Addr} {n c : Nat} {x : List Int} {k : Nat → Tr} {vs : Nat → Value} (hk : TK (KW gW vN Z) w k vs) (hx : Sk (KW gW vN Z) w a n c x) (hn2 : n ≤ 256) (hX : ∀ b, w.heap.size ≤ b → X b) (hR : ∀ i, i < 16 → k i = no ∨ RFS (k i)) (hM : (ns ++ nmJ k 16).length + 1 ≤ 7600000000000) :
    Calls Tryz.prog 182 #[.agg (brc vs (.slice a n c)), .pointer (some ⟨gW, 0, none⟩)] w fun e w' => ∃ u, e = .returned u ∧ RNd w gW base vN X ns (br k x) u w' := by
  have hB := Bl.refl w
  replace hk := hk.aged
  replace hx := hx.aged
  have hW0 := hW
  refine cw_enter Tryz.func182 rfl 28 rfl ?_
  show CW _ _ _ _ _ _ _ [(0, .agg (brc vs (.slice a n c))), (1, .pointer (some ⟨gW, 0, none⟩))] _
  refine cw_seq ?_
  refine cw_region ?_
  refine rw_new 2 (brc vs (.slice a n c)) 215 (fun _ => by kernel_rfl) (fun _ => by kernel_rfl) ?_
  intro w1 gB hnB
  replace hB := hB.go hnB.below
  replace hk := hk.go hnB.below
  replace hx := hx.go hnB.below
  have hrB : Rw gB w1 (brc vs (.slice a n c)) 215 := hnB.row
  have hgB := hnB.hg
  have hsB := hnB.size
  refine rw_new 4 nz.cells.toArray 92 (fun _ => by kernel_rfl) (fun _ => by kernel_rfl) ?_
  intro w2 gN hnN
  replace hB := hB.go hnN.below
  replace hk := hk.go hnN.below
  replace hx := hx.go hnN.below
  replace hrB := hrB.go hnN.below
  have hrN : Rw gN w2 nz.cells.toArray 92 := hnN.row
  have hgN := hnN.hg
  have hsN := hnN.size
  refine rw_nil ?_
  refine nw_then ?_
  refine cw_seq ?_
  refine cw_region ?_
  refine rw_newS 8 kz 62 16 (fun _ => by kernel_rfl) (fun _ => by kernel_rfl) ?_
  intro w3 gK hnK
  replace hB := hB.go hnK.below
  replace hk := hk.go hnK.below
  replace hx := hx.go hnK.below
  replace hrB := hrB.go hnK.below
  replace hrN := hrN.go hnK.below
  have hK := Kr.new hnK
  have hgK := hnK.hg
  have hI : BI w gW base vN X ns k vs a n c x gB gN gK 0 vN (fun _ => rz) w3 := ⟨hrB, hrN, hK, hk, hx, fun i hi => by rw [if_neg (by omega)]; exact ⟨ref_zeroK _ _⟩, (by rw [show nmJ k 0 = [] from rfl, List.append_nil]; exact (hW0.mono (Y := fun b => X b ∧ b ≠ gN ∧ b ≠ gK) (fun b hb hx => ⟨hx, by omega, by omega⟩)).go hB), Wg.of_below hB⟩
  have hord : w.heap.size ≤ gB ∧ gB < gN ∧ gN < gK := by omega
  clear hrB hrN hK hk hx hB
  refine rp 5 (.slice (some ⟨gK, 0, none⟩) 16 16) ?_
  refine rw_nil ?_
  refine nw_then ?_
  refine cw_seq ?_
  refine cw_seq ?_
  refine cw_region ?_
  refine rp 9 (.pointer (some ⟨gB, 0, none⟩)) ?_
  refine rv 10 (.agg (bra vs)) (fun _ => ol_arr hI.hrB _ rfl (by kernel_rfl)) ?_
  refine rp 11 (.int .i64 0) ?_
  refine rw_nil ?_
  refine nw_then ?_
  refine cw_block ?_
  refine cw_loop (X := Nat × Value × (Nat → RV)) (fun z => [(11, .int .i64 ((z.1 : Nat) : Int)), (10, .agg (bra vs)), (5, .slice (some ⟨gK, 0, none⟩) 16 16), (1, .pointer (some ⟨gW, 0, none⟩)), (2, .pointer (some ⟨gB, 0, none⟩)), (4, .pointer (some ⟨gN, 0, none⟩))]) (fun z v => BI w gW base vN X ns k vs a n c x gB gN gK z.1 z.2.1 z.2.2 v ∧ z.1 ≤ 16) (fun z => 16 - z.1) (0, vN, fun _ => rz) (by exact ⟨fun _ => by kernel_rfl, ⟨fun _ => by kernel_rfl, ⟨fun _ => by kernel_rfl, ⟨fun _ => by kernel_rfl, ⟨fun _ => by kernel_rfl, ⟨fun _ => by kernel_rfl, trivial⟩⟩⟩⟩⟩⟩) ⟨hI, Nat.zero_le _⟩ ?_
  clear hI
  rintro ⟨j, vM, ys⟩ v ⟨hI, hj⟩
  simp only at hI hj
  show CW _ _ _ _ _ _ _ [(11, .int .i64 ((j : Nat) : Int)), (10, .agg (bra vs)), (5, .slice (some ⟨gK, 0, none⟩) 16 16), (1, .pointer (some ⟨gW, 0, none⟩)), (2, .pointer (some ⟨gB, 0, none⟩)), (4, .pointer (some ⟨gN, 0, none⟩))] _
  by_cases hlt : j < 16
  · skip
    refine cw_seq ?_
    refine cw_region ?_
    refine rv 12 (.bool true) (fun _ => ol_conv (v := .bool (decide (((j : Nat) : Int) < (16 : Int)))) (by kernel_rfl) (congrArg Value.bool (decide_eq_true (by omega)))) ?_
    refine rw_nil ?_
    refine nw_then ?_
    refine cw_seq ?_
    refine cw_cond_t (fun _ => by kernel_rfl) ?_
    refine cw_skip ?_
    refine nw_then ?_
    refine cw_seq ?_
    refine cw_block ?_
    refine cw_seq ?_
    refine cw_region ?_
    refine rp 13 (.int .i64 ((j : Nat) : Int)) ?_
    refine rv 14 (vs j) (fun _ => ol_ixa _ _ vs j hlt rfl (by kernel_rfl) (by kernel_rfl)) ?_
    refine rp 6 (.int .i64 ((j : Nat) : Int)) ?_
    refine rp 7 (vs j) ?_
    refine rw_nil ?_
    refine nw_then ?_
    refine cw_seq ?_
    refine cw_region ?_
    refine rp 15 (vs j) ?_
    refine rv 16 (.bool (!(k j).isNo)) (fun _ => ol_nen (hI.hk j hlt) _ _ rfl (by kernel_rfl) (by kernel_rfl)) ?_
    refine rw_nil ?_
    refine nw_then ?_
    cases hno : (k j).isNo with
    | true =>
      show CW _ _ _ _ _ _ _ [(16, .bool false), (15, vs j), (7, vs j), (6, .int .i64 ((j : Nat) : Int)), (14, vs j), (13, .int .i64 ((j : Nat) : Int)), (12, .bool true), (11, .int .i64 ((j : Nat) : Int)), (10, .agg (bra vs)), (5, .slice (some ⟨gK, 0, none⟩) 16 16), (1, .pointer (some ⟨gW, 0, none⟩)), (2, .pointer (some ⟨gB, 0, none⟩)), (4, .pointer (some ⟨gN, 0, none⟩))] _
      have hI2 := hI.skip hno
      refine cw_cond_f (fun _ => by kernel_rfl) ?_
      refine cw_skip ?_
      refine nw_block ?_
      refine nw_then ?_
      refine cw_region ?_
      refine rv 23 (.int .i64 ((j + 1 : Nat) : Int)) (fun _ => ol_conv (v := .int .i64 (IntKind.i64.wrap (((j : Nat) : Int) + 1))) (by kernel_rfl) (congrArg (Value.int .i64) (by rw [wrap64 (by omega) (by omega)]; rfl))) ?_
      refine rp 11 (.int .i64 ((j + 1 : Nat) : Int)) ?_
      refine rw_nil ?_
      exact nw_round (E := fun z => [(11, .int .i64 ((z.1 : Nat) : Int)), (10, .agg (bra vs)), (5, .slice (some ⟨gK, 0, none⟩) 16 16), (1, .pointer (some ⟨gW, 0, none⟩)), (2, .pointer (some ⟨gB, 0, none⟩)), (4, .pointer (some ⟨gN, 0, none⟩))]) (R := fun z v => BI w gW base vN X ns k vs a n c x gB gN gK z.1 z.2.1 z.2.2 v ∧ z.1 ≤ 16) (μ := fun z => 16 - z.1) (x := (j, vM, ys)) (j + 1, vM, ys) (by exact ⟨fun _ => by kernel_rfl, ⟨fun _ => by kernel_rfl, ⟨fun _ => by kernel_rfl, ⟨fun _ => by kernel_rfl, ⟨fun _ => by kernel_rfl, ⟨fun _ => by kernel_rfl, trivial⟩⟩⟩⟩⟩⟩) ⟨hI2, by omega⟩ (by show 16 - (j + 1) < 16 - j; omega)
    | false =>
      show CW _ _ _ _ _ _ _ [(16, .bool true), (15, vs j), (7, vs j), (6, .int .i64 ((j : Nat) : Int)), (14, vs j), (13, .int .i64 ((j : Nat) : Int)), (12, .bool true), (11, .int .i64 ((j : Nat) : Int)), (10, .agg (bra vs)), (5, .slice (some ⟨gK, 0, none⟩) 16 16), (1, .pointer (some ⟨gW, 0, none⟩)), (2, .pointer (some ⟨gB, 0, none⟩)), (4, .pointer (some ⟨gN, 0, none⟩))] _
      refine cw_cond_t (fun _ => by kernel_rfl) ?_
      refine cw_region ?_
      refine rp 17 (.slice (some ⟨gK, 0, none⟩) 16 16) ?_
      refine rp 18 (.int .i64 ((j : Nat) : Int)) ?_
      refine rp 19 (.pointer (some ⟨gW, 0, none⟩)) ?_
      refine rp 20 (vs j) ?_
      have hRj : RFS (k j) := by
        rcases hR j hlt with h | h
        · rw [h] at hno; simp [isNo] at hno
        · exact h
      have hMj : ((ns ++ nmJ k j) ++ nmd (k j)).length + 1 ≤ 7600000000000 := by
        have h1 := nmJ_mono k (j + 1) (15 - j)
        rw [show j + 1 + (15 - j) = 16 from by omega, nmJ_succ, show nmK k j = nmd (k j) ++ nm1 (encT (k j)) from by unfold nmK; rw [if_neg (by simp [hno])]] at h1
        simp only [List.length_append] at h1 hM ⊢
        omega
      refine rw_call 21 186 #[.pointer (some ⟨gW, 0, none⟩), vs j] (fun _ => by kernel_rfl) (fun _ => by kernel_rfl) (R := RRf v gW base vM (fun b => X b ∧ b ≠ gN ∧ b ≠ gK) (ns ++ nmJ k j) (k j)) (hRj (hI.hk j hlt) hI.hW (fun b hb => ⟨hX b (Nat.le_trans hI.hG.size hb), by have := hI.hK.lt; omega, by have := hI.hK.lt; omega⟩) hMj) ?_
      rintro _ u1 ⟨y, vP, rfl, hRf, hW1, hG1⟩
      have hyl := hRf.at'.len
      obtain ⟨hKu, hI2⟩ := hI.step hlt hno hord.1 hord.2.1 hord.2.2 hRf hW1 hG1
      refine rv 22 (.pointer (some ⟨gK, 0 + j * 34, none⟩)) (fun _ => ol_index 90 _ _ gK 0 j 16 16 34 62 rfl (by kernel_rfl) (by kernel_rfl) hlt Tryz.underlying90 (by kernel_rfl)) ?_
      refine rw_s (fun _ => by kernel_rfl) (fun _ => ol_storeM _ _ hKu hlt hyl rfl (by kernel_rfl) (by kernel_rfl)) ?_
      generalize u1.setCells gK (0 + j * 34) y.cells = wS at hI2 ⊢
      refine rw_nil ?_
      refine nw_block ?_
      refine nw_then ?_
      refine cw_region ?_
      refine rv 23 (.int .i64 ((j + 1 : Nat) : Int)) (fun _ => ol_conv (v := .int .i64 (IntKind.i64.wrap (((j : Nat) : Int) + 1))) (by kernel_rfl) (congrArg (Value.int .i64) (by rw [wrap64 (by omega) (by omega)]; rfl))) ?_
      refine rp 11 (.int .i64 ((j + 1 : Nat) : Int)) ?_
      refine rw_nil ?_
      exact nw_round (E := fun z => [(11, .int .i64 ((z.1 : Nat) : Int)), (10, .agg (bra vs)), (5, .slice (some ⟨gK, 0, none⟩) 16 16), (1, .pointer (some ⟨gW, 0, none⟩)), (2, .pointer (some ⟨gB, 0, none⟩)), (4, .pointer (some ⟨gN, 0, none⟩))]) (R := fun z v => BI w gW base vN X ns k vs a n c x gB gN gK z.1 z.2.1 z.2.2 v ∧ z.1 ≤ 16) (μ := fun z => 16 - z.1) (x := (j, vM, ys)) (j + 1, vP, updR ys j y) (by exact ⟨fun _ => by kernel_rfl, ⟨fun _ => by kernel_rfl, ⟨fun _ => by kernel_rfl, ⟨fun _ => by kernel_rfl, ⟨fun _ => by kernel_rfl, ⟨fun _ => by kernel_rfl, trivial⟩⟩⟩⟩⟩⟩) ⟨hI2, by omega⟩ (by show 16 - (j + 1) < 16 - j; omega)
  obtain rfl : j = 16 := by omega
  refine cw_seq ?_
  refine cw_region ?_
  refine rv 12 (.bool false) (fun _ => ol_conv (v := .bool (decide (((16 : Nat) : Int) < (16 : Int)))) (by kernel_rfl) (congrArg Value.bool (rfl))) ?_
  refine rw_nil ?_
  refine nw_then ?_
  refine cw_seq ?_
  refine cw_cond_f (fun _ => by kernel_rfl) ?_
  refine cw_exit ?_
  refine nw_exit_then ?_
  refine nw_exit_then ?_
  refine nw_exit_here ?_
  refine nw_then ?_
  refine cw_seq ?_
  refine cw_region ?_
  refine rp 24 (.slice (some ⟨gK, 0, none⟩) 16 16) ?_
  refine rp 25 (.pointer (some ⟨gB, 16, none⟩)) ?_
  refine rv 26 (.slice a n c) (fun _ => ol_cell 27 _ ⟨gB, 16, none⟩ _ _ rfl (by kernel_rfl) (by rw [cell_of_row _ _ _ _ _ _ hI.hrB]; rfl) Tryz.underlying27 rfl) ?_
  refine rv 27 (.agg (NV.cells ⟨3, none, 0, 0, a, n, c, rz, some ⟨gK, 0, none⟩, 16, 16⟩).toArray) (fun _ => ol_build 92 _ [(0, .int .i64 3), (4, .slice (some ⟨gK, 0, none⟩) 16 16), (2, .slice a n c)] _ rfl (by kernel_rfl) (built_N3' _ _ _ _ _ _)) ?_
  refine rw_put gN (NV.cells ⟨3, none, 0, 0, a, n, c, rz, some ⟨gK, 0, none⟩, 16, 16⟩).toArray (fun _ => by kernel_rfl) (fun _ => ol_store 92 _ _ _ _ _ _ rfl (by kernel_rfl) (by kernel_rfl) hI.hrN (by rw [infoN, n_size (y := ⟨3, none, 0, 0, a, n, c, rz, some ⟨gK, 0, none⟩, 16, 16⟩) rfl]) (by rw [n_size (y := ⟨3, none, 0, 0, a, n, c, rz, some ⟨gK, 0, none⟩, 16, 16⟩) rfl]; rfl) (n_ones _)) ?_
  intro wE hpE
  have hrE : Rw gN wE (NV.cells ⟨3, none, 0, 0, a, n, c, rz, some ⟨gK, 0, none⟩, 16, 16⟩).toArray 92 := hpE.row hI.hrN
  have hxE := hI.hx.put hpE (fun b hb => by have := hb.2.2; omega)
  have hKE := hI.hK.same (hpE.other (by omega))
  have hRE := fun i hi => (hI.hr i hi).put hpE (fun b hb => by have := hb.2.2; omega)
  have hWE := (hI.hW.put hI.hrN (by decide) (by decide) (fun b hb => hb.2.1) hpE).mono (Y := X) (fun b _ hb => hb.1)
  have hGE := hI.hG.put hpE (by omega)
  refine rw_nil ?_
  refine nw_then ?_
  refine cw_ret ?_
  have lx := hxE.len
  exact nw_ret_body (.agg (NV.cells ⟨3, none, 0, 0, a, n, c, rz, some ⟨gK, 0, none⟩, 16, 16⟩).toArray) (fun _ => results_n Tryz.results182 _ gN ⟨3, none, 0, 0, a, n, c, rz, some ⟨gK, 0, none⟩, 16, 16⟩ rfl (by kernel_rfl) hrE) ⟨_, rfl, ⟨3, none, 0, 0, a, n, c, rz, some ⟨gK, 0, none⟩, 16, 16⟩, vM, rfl, ⟨rfl, ag_none _, hxE.agk (by omega), ref_zero _, ⟨(by simp [nodeP]), Nat.le_refl _, (by show 16 ≤ maxLen; unfold maxLen; omega), (by show 16 ≤ _; omega), fun e => by cases e⟩, kids_at hKE hRE⟩, hWE, hGE⟩
end Go.Proofs.YtalhnnjpjaeakaaGreat
/- What a writer writes: any tree. -/
namespace Go.Proofs.YtalhnnjpjaeakaaGreat
open Go.RowKit
open Tr
set_option linter.unusedVariables false
set_option maxRecDepth 100000
theorem iv_node_l (x : Value) : Iv "pergola/trie.node" (.iface 98 x) 170 x := iv_of fun w vs => by kernel_rfl
theorem iv_node_e (x : Value) : Iv "pergola/trie.node" (.iface 220 x) 190 x := iv_of fun w vs => by kernel_rfl
theorem iv_node_b (x : Value) : Iv "pergola/trie.node" (.iface 215 x) 182 x := iv_of fun w vs => by kernel_rfl
def NDS (t : Tr) : Prop := ∀ {v : World} {gW base : Nat} {vM : Value} {Y Z : Nat → Prop} {ns : List (List Int)} {val : Value}, TA (KW gW vM Z) v t val → Wt v gW base vM Y ns → (∀ b, v.heap.size ≤ b → Y b) → (ns ++ nmd t).length + 1 ≤ 7600000000000 → MC "pergola/trie.node" val #[.pointer (some ⟨gW, 0, none⟩)] v (RNd v gW base vM Y ns t)
theorem nds_enc {t : Tr} (hne : t ≠ no) (h : NDS t) {v : World} {gW base : Nat} {vM : Value} {Y Z : Nat → Prop} {ns : List (List Int)} {val : Value} (ht : TA (KW gW vM Z) v t val) (hW : Wt v gW base vM Y ns) (hY : ∀ b, v.heap.size ≤ b → Y b) (hM : (ns ++ nmd t).length + 1 ≤ 7600000000000) :
    Calls Tryz.prog 40 #[.pointer (some ⟨gW, 0, none⟩), val] v fun e w' => ∃ u, e = .returned u ∧ REn v gW base vM Y ns t u w' := by
  have hm := h ht hW hY hM
  obtain ⟨T0, v0, rfl⟩ := ht.iface hne
  exact encode_yes hne hm
theorem rfs_of {t : Tr} (hne : t ≠ no) (h : NDS t) : RFS t := by
  intro v gW base vM Y Z ns val ht hW hY hM
  have hE : ∀ v', Bl v v' → ∀ Y' : Nat → Prop, Wt v' gW base vM Y' ns → (∀ b, v'.heap.size ≤ b → Y' b) → Calls Tryz.prog 40 #[.pointer (some ⟨gW, 0, none⟩), val] v' fun e w' => ∃ u, e = .returned u ∧ REn v' gW base vM Y' ns t u w' :=
    fun v' hb Y' hW' hY' => nds_enc hne h (ht.go hb) hW' hY' hM
  obtain ⟨T0, v0, rfl⟩ := ht.iface hne
  by_cases hs : (encT t).length < 32
  · exact wrefer_short hW hY hE hM hs
  · exact wrefer_long hW hY hE hM hs
theorem nds_all (t : Tr) : ∀ {B : Nat}, Tr.Ok B t → B ≤ 64 → NDS t := by
  induction t with
  | no => intro B hO; exact hO.elim
  | leaf p x =>
    intro B hO h64 v gW base vM Y Z ns val ht hW hY hM
    obtain ⟨a1, n1, c1, a2, n2, c2, rfl, h1, h2, h3⟩ := ht
    exact ⟨_, _, _, rfl, iv_node_l _, lnode_any hW h1 h2 (by have := h1.len; have := hO.2.1; omega) h3⟩
  | ext p t ih =>
    intro B hO h64 v gW base vM Y Z ns val ht hW hY hM
    obtain ⟨a1, n1, c1, u, rfl, h1, h2⟩ := ht
    obtain ⟨o1, o2, o3, o4, o5⟩ := hO
    have hne : t ≠ no := fun e => by rw [e] at o4; simp [isBr] at o4
    have hR : RFS t := rfs_of hne (ih o5 (by omega))
    have hM' : (ns ++ nmd t).length + 1 ≤ 7600000000000 := by
      simp only [nmd, List.length_append] at hM ⊢
      omega
    obtain ⟨Tu, xu, rfl⟩ := h2.iface hne
    exact ⟨_, _, _, rfl, iv_node_e _, enode_any hW h1 (by have := h1.len; omega) hY (fun v' hb Y' hW' hY' => hR (h2.go hb) hW' hY' hM')⟩
  | br k x ih =>
    intro B hO h64 v gW base vM Y Z ns val ht hW hY hM
    obtain ⟨vs, a1, n1, c1, rfl, h1, h2, h3⟩ := ht
    refine ⟨_, _, _, rfl, iv_node_b _, bnode_any hW h1 h2 h3 hY (fun i hi => ?_) hM⟩
    rcases hO.1 i with h | ⟨_, _, h⟩
    · exact .inl h
    · exact .inr (rfs_of h.ne (ih i h (by omega)))
end Go.Proofs.YtalhnnjpjaeakaaGreat
/- The root of any trie. -/
namespace Go.Proofs.YtalhnnjpjaeakaaGreat
open Go.RowKit
open Tr
set_option linter.unusedVariables false
set_option maxRecDepth 100000
open Di (dref)
def rootP (t : Tr) : List Int := if t.isNo then dref [128] else dref (encT t)
theorem Wg.below {w v u : World} {gW : Nat} {vN vM : Value} (h : Wg v u gW vN vM) (hb : Bl w v) (hg : w.heap.size ≤ gW) (hv : vN.ownBlock = none) : Bl w u :=
  Below.trans hb ⟨h.os, h.tape, h.output, h.size, fun k hk => h.block k (Nat.lt_of_lt_of_le hk hb.size) (by omega) (by rw [hv]; simp)⟩
theorem Wt.new {w w' : World} {gW : Nat} (h : New w w' gW #[.slice none 0 0] 81) : Wt w' gW gW (.slice none 0 0) (fun _ => True) [] := ⟨h.row, ⟨[], ⟨rfl, .inl ⟨rfl, rfl⟩⟩, rfl, fun j v hj => by simp at hj⟩, Nat.le_refl _⟩
set_option maxHeartbeats 4000000 in
theorem root_yes {K : Nat → Prop} {w : World} {g : Nat} {t : Tr} {T0 : TypeId} {v0 : Value} (hr : Rw g w #[.iface T0 v0] 67) (ht : TA K w t (.iface T0 v0)) (hO : Tr.Ok 64 t) (hne : t ≠ no) (hM : (nmd t).length + 1 ≤ 7600000000000) :
    Calls Tryz.prog 18 #[.pointer (some ⟨g, 0, none⟩)] w fun e w' => ∃ u, e = .returned u ∧ (fun u w' => u = .agg (B8 (dref (encT t))) ∧ Bl w w') u w' := by
  have hB := Bl.refl w
  have hdl := dref_len (encT t)
  obtain ⟨ds, hds⟩ : ∃ ds, dref (encT t) = ds := ⟨_, rfl⟩
  rw [hds] at hdl ⊢
  replace ht := ht.old
  refine cw_enter Tryz.func18 rfl 16 rfl ?_
  show CW _ _ _ _ _ _ _ [(0, .pointer (some ⟨g, 0, none⟩))] _
  refine cw_seq ?_
  refine cw_region ?_
  refine rw_new 2 (B8 z32) 49 (fun _ => by kernel_rfl) (fun _ => by kernel_rfl) ?_
  intro w1 g2 hn3
  replace hB := hB.go hn3.below
  replace hr := hr.go hn3.below
  replace ht := ht.go hn3.below
  have hr4 : Rw g2 w1 (B8 z32) 49 := hn3.row
  have hgd := hn3.hg
  refine rw_nil ?_
  refine nw_then ?_
  refine cw_seq ?_
  refine cw_seq ?_
  refine cw_region ?_
  refine rp 3 (.pointer (some ⟨g, 0, none⟩)) ?_
  refine rp 4 (.pointer (some ⟨g, 0, none⟩)) ?_
  refine rp 5 (.pointer (some ⟨g, 0, none⟩)) ?_
  refine rv 6 (.iface T0 v0) (fun _ => ol_cell 65 _ ⟨g, 0, none⟩ _ _ rfl (by kernel_rfl) (by rw [cell_of_row _ _ _ _ _ _ hr]; rfl) Tryz.underlying65 rfl) ?_
  refine rp 7 (.bool false) ?_
  refine rw_nil ?_
  refine nw_then ?_
  refine cw_cond_f (fun _ => by kernel_rfl) ?_
  refine cw_skip ?_
  refine nw_then ?_
  refine cw_seq ?_
  refine cw_region ?_
  refine rw_new 9 #[.slice none 0 0] 81 (fun _ => by kernel_rfl) (fun _ => by kernel_rfl) ?_
  intro wW gW hnW
  have hzW := hB.size
  replace hB := hB.go hnW.below
  replace hr := hr.go hnW.below
  replace ht := ht.go hnW.below
  replace hr4 := hr4.go hnW.below
  have hgW := hnW.hg
  have hWt := Wt.new hnW
  refine rp 10 (.pointer (some ⟨g, 0, none⟩)) ?_
  refine rp 11 (.pointer (some ⟨g, 0, none⟩)) ?_
  refine rp 12 (.pointer (some ⟨g, 0, none⟩)) ?_
  refine rv 13 (.iface T0 v0) (fun _ => ol_cell 65 _ ⟨g, 0, none⟩ _ _ rfl (by kernel_rfl) (by rw [cell_of_row _ _ _ _ _ _ hr]; rfl) Tryz.underlying65 rfl) ?_
  refine rw_call 14 40 #[.pointer (some ⟨gW, 0, none⟩), .iface T0 v0] (fun _ => by kernel_rfl) (fun _ => by kernel_rfl) (R := REn wW gW gW (.slice none 0 0) (fun _ => True) [] t) (nds_enc hne (nds_all t hO (by omega)) (ht.mono (K' := KW gW (.slice none 0 0) (fun _ => True)) (fun b hb => ⟨by omega, by simp [Value.ownBlock], trivial⟩)) hWt (fun _ _ => trivial) (by simpa using hM)) ?_
  rintro _ u1 ⟨a2, n2, c2, vM, rfl, hs2, hW1, hG, hen⟩
  replace hr4 := hr4.wg hG hWt (by decide) (by decide)
  replace hB := hG.below hB (by omega) rfl
  clear hr ht hWt
  have l2 := hs2.len
  refine rw_call 15 39 #[.slice a2 n2 c2] (fun _ => by kernel_rfl) (fun _ => by kernel_rfl) (R := fun u w' => u = .agg (B8 ds) ∧ Bl u1 w') ((dof_any a2 n2 c2 (encT t) u1 hs2.ag (by omega)).mono (fun e w' h => ⟨_, by rw [h.1, hds], rfl, h.2⟩)) ?_
  rintro _ u2 ⟨rfl, hb2⟩
  replace hr4 := hr4.go hb2
  replace hB := hB.go hb2
  refine rw_put g2 (B8 ds) (fun _ => by kernel_rfl) (fun _ => ol_store 49 _ _ _ _ _ _ rfl (by kernel_rfl) (by kernel_rfl) hr4 (infoD' hdl) (z8_size hdl) (B8_one _)) ?_
  intro uE hpE
  replace hB : Bl w uE := hpE.below hB (by omega) hB.size
  have hrE : Rw g2 uE (B8 ds) 49 := hpE.row hr4
  refine rw_nil ?_
  refine nw_then ?_
  refine cw_ret ?_
  exact nw_ret_body (.agg (B8 ds)) (fun _ => results_d Tryz.results18 _ g2 ds hdl (by kernel_rfl) hrE) ⟨_, rfl, rfl, hB⟩
theorem root_any {K : Nat → Prop} {w : World} {g : Nat} {t : Tr} (h : Tri K w g t) (hM : (nmd t).length + 1 ≤ 7600000000000) :
    Calls Tryz.prog 18 #[.pointer (some ⟨g, 0, none⟩)] w fun e w' => ∃ u, e = .returned u ∧ u = .agg (B8 (rootP t)) ∧ Bl w w' := by
  obtain ⟨⟨v, h1, h2⟩, h3⟩ := h
  rcases h3 with rfl | hO
  · rw [show v = .nilIface from h2] at h1
    exact root_no h1
  · have hne := hO.ne
    obtain ⟨T0, v0, rfl⟩ := h2.iface hne
    rw [show rootP t = dref (encT t) from by unfold rootP; rw [if_neg (fun e => hne (isNo_iff.1 e))]]
    exact root_yes h1 h2 hO hne hM
end Go.Proofs.YtalhnnjpjaeakaaGreat
/- The nodes of any trie, in order. -/
namespace Go.Proofs.YtalhnnjpjaeakaaGreat
open Go.RowKit
open Tr
open Ni (lessP)
set_option linter.unusedVariables false
set_option maxRecDepth 100000
/-- A byte string among others that rise. -/
def insB (b : List Int) : List (List Int) → List (List Int)
  | [] => [b]
  | x :: r => if b = x then x :: r else if lessP b x then b :: x :: r else x :: insB b r
theorem mem_insB (b y : List Int) : ∀ l : List (List Int), y ∈ insB b l ↔ y = b ∨ y ∈ l
  | [] => by simp [insB]
  | x :: r => by
    have ih := mem_insB b y r
    simp only [insB]
    by_cases h : b = x
    · subst h; rw [if_pos rfl]; simp
    · rw [if_neg h]
      by_cases k : lessP b x = true
      · rw [if_pos k]; simp
      · rw [if_neg k]; simp only [List.mem_cons, ih]; constructor
        · rintro (q | q | q)
          · exact .inr (.inl q)
          · exact .inl q
          · exact .inr (.inr q)
        · rintro (q | q | q)
          · exact .inr (.inl q)
          · exact .inl q
          · exact .inr (.inr q)
theorem srt_insB (b : List Int) : ∀ l : List (List Int), SrtB l → SrtB (insB b l)
  | [], _ => by simp [insB, SrtB]
  | x :: r, h => by
    obtain ⟨h1, h2⟩ := List.pairwise_cons.1 h
    simp only [insB]
    by_cases e : b = x
    · rw [if_pos e]; exact h
    · rw [if_neg e]
      by_cases k : lessP b x = true
      · rw [if_pos k]
        refine List.pairwise_cons.2 ⟨fun y hy => ?_, h⟩
        rcases List.mem_cons.1 hy with q | q
        · rw [q]; exact k
        · exact less_trans _ _ _ k (h1 y q)
      · rw [if_neg k]
        refine List.pairwise_cons.2 ⟨fun y hy => ?_, srt_insB b r h2⟩
        rcases (mem_insB b y r).1 hy with q | q
        · rw [q]; exact less_tot _ _ e (by simpa using k)
        · exact h1 y q
def insAll (l : List (List Int)) (M : List (List Int)) : List (List Int) := M.foldl (fun l b => insB b l) l
theorem insAll_spec : ∀ (M l : List (List Int)), SrtB l → SrtB (insAll l M) ∧ ∀ y, y ∈ insAll l M ↔ y ∈ l ∨ y ∈ M
  | [], l, h => ⟨h, by simp [insAll]⟩
  | b :: M, l, h => by
    have ih := insAll_spec M (insB b l) (srt_insB b l h)
    refine ⟨ih.1, fun y => ?_⟩
    rw [show insAll l (b :: M) = insAll (insB b l) M from rfl, ih.2, mem_insB, List.mem_cons]
    constructor
    · rintro ((q | q) | q)
      · exact .inr (.inl q)
      · exact .inl q
      · exact .inr (.inr q)
    · rintro (q | q | q)
      · exact .inl (.inr q)
      · exact .inl (.inl q)
      · exact .inr q
/-- The nodes of a tree, in order. -/
def nodesP (t : Tr) : List (List Int) := if t.isNo then [] else insAll [] (nmd t ++ [encT t])
theorem nodes_eq {M N : List (List Int)} (hp : N.Perm M) (hs : N.Pairwise (fun p q => lessP q p = false)) : dd N = insAll [] M := by
  have h := insAll_spec M [] (by simp [SrtB])
  refine srtB_uniq _ _ (dd_srt _ hs) h.1 fun x => ?_
  rw [mem_dd, h.2, hp.mem_iff]
  simp
theorem names_row {X : Nat → Prop} {w0 w : World} {gW base : Nat} {vN : Value} {ns : List (List Int)} (hW : Wt w gW base vN X ns) {gL : Nat} {a : Option Addr} {n c : Nat} {b : List Int} (hs : Sk (KW gW vN X) w a n c b) (hL : Rw gL w #[.slice a n c] 27) (hlen : ns.length + 1 ≤ 7600000000000) (hB : Bl w0 w) (hb0 : w0.heap.size ≤ base) :
    ∃ (gb cap : Nat) (cur : Array Value) (ps : List (Value × List Int)) (w' : World), (∀ ty, (Builtin.append_ #[41, 41] ty #[vN, .slice (some ⟨gL, 0, none⟩) 1 1]).run Tryz.prog w = .ok (.slice (some ⟨gb, 0, none⟩) (ns.length + 1) cap) w') ∧ Rw gb w' cur 27 ∧ cur.toList.take (ns.length + 1) = ps.map Prod.fst ∧ cur.size = cap ∧ ps.length = ns.length + 1 ∧ ns.length + 1 ≤ cap ∧ (∀ p ∈ ps, Gd (fun b => b ≠ gb ∧ X b) w' p) ∧ ps.map Prod.snd = ns ++ [b] ∧ w0.heap.size ≤ gb ∧ Bl w0 w' := by
  obtain ⟨i, hi, hz, hsz, hby⟩ := infoB
  have hlt := hW.lt
  have hbw := hW.b
  obtain ⟨vals, hown, hvl, hvs⟩ := hW.o
  obtain ⟨v', w', h1, h2, h3, h4, h5⟩ := app_at_wide w base 41 0 27 i (.slice none 0 0) 1 24 Tryz.underlying41 hi hz hsz hby rfl (by decide) vN ns.length vals hown ⟨gL, 0, none⟩ 1 1 [.slice a n c] rfl (fun j u hu => by
      cases j with
      | zero => rw [addr_add, cell_of_row _ _ _ _ _ _ hL]; exact hu
      | succ j => simp at hu) (fun u hu => by rw [List.mem_singleton.1 hu]; rfl) (by decide) (by unfold maxLen; omega) (by omega) (by omega)
  obtain ⟨hvl2, ho⟩ := h2
  rcases ho with ⟨e, hn⟩ | ⟨gb, cap, cur, rfl, hgb, hg, hc1, hc2, hc3, hc4⟩
  · omega
  have hown0 : ∀ k, vN.ownBlock = some k → w0.heap.size ≤ k := by
    intro k hk
    rcases hown.2 with ⟨rfl, _⟩ | ⟨g', cap', cur', rfl, hg', _⟩
    · cases hk
    · have e : g' = k := by simpa [Value.ownBlock] using hk
      omega
  have hgo : ∀ {a' : Option Addr} {m' c' : Nat} {x : List Int}, Sk (KW gW vN X) w a' m' c' x → Sk (fun b => b ≠ gb ∧ X b) w' a' m' c' x := by
    intro a' m' c' x hx
    refine ⟨⟨?_, hx.ag.nil, hx.ag.l, hx.ag.b⟩, fun y hy hn => ?_⟩
    · rcases hx.ag.i with q | ⟨g', off, q1, q2, q3, q4, q5, q7⟩
      · exact .inl q
      · refine .inr ⟨g', off, q1, q2, q3, q4, q5, fun j hj => ?_⟩
        rw [← q7 j hj]
        have hk := hx.k _ q1 q3
        exact World.cell?_of_block (h3.block g' (block_lt_of_cell (q7 j hj)) (fun e => hk.2.1 e.symm))
    · have hk := hx.k y hy hn
      refine ⟨?_, hk.2.2⟩
      intro e
      rcases h5 with q | q
      · exact hk.2.1 (by rw [← q, e]; rfl)
      · have h6 := hx.old hy hn
        have h7 : gb = w.heap.size := by simpa [Value.ownBlock] using q
        omega
  have hz2 : ∀ p ∈ (vals ++ [Value.slice a n c]).zip (ns ++ [b]), Gd (fun b => b ≠ gb ∧ X b) w' p := by
    intro p hp
    obtain ⟨j, hj, e⟩ := List.mem_iff_getElem.1 hp
    rw [List.getElem_zip] at e
    subst e
    simp only [List.length_zip, List.length_append, List.length_singleton] at hj
    by_cases hjl : j < vals.length
    · obtain ⟨a1, n1, c1, e1, hs1⟩ := hvs j vals[j] (List.getElem?_eq_getElem hjl)
      refine ⟨a1, n1, c1, ?_, ?_⟩
      · show (vals ++ [Value.slice a n c])[j] = _
        rw [List.getElem_append_left hjl]; exact e1
      · show Sk _ _ _ _ _ ((ns ++ [b])[j]'(by simp; omega))
        rw [List.getElem_append_left (by omega)]
        have : ns.getD j [] = ns[j]'(by omega) := by simp [List.getD, show j < ns.length by omega]
        rw [← this]
        exact hgo hs1
    · obtain rfl : j = vals.length := by omega
      refine ⟨a, n, c, ?_, ?_⟩
      · show (vals ++ [Value.slice a n c])[vals.length] = _
        simp
      · show Sk _ _ _ _ _ ((ns ++ [b])[vals.length]'(by simp; omega))
        have : (ns ++ [b])[vals.length]'(by simp; omega) = b := by simp [hvl]
        rw [this]
        exact hgo hs
  have hll : (vals ++ [Value.slice a n c]).length = (ns ++ [b]).length := by simp [hvl]
  refine ⟨gb, cap, cur, (vals ++ [Value.slice a n c]).zip (ns ++ [b]), w', fun ty => h1, hg, ?_, by rw [hc3, Nat.mul_one], by simp [hvl], hc1, hz2, ?_, ?_, ?_⟩
  · rw [List.map_fst_zip (by omega), ← hc4, Nat.mul_one]
  · rw [List.map_snd_zip (by omega)]
  · omega
  · exact Below.trans hB ⟨h3.os, h3.tape, h3.output, h3.size, fun k hk => h3.block k (Nat.lt_of_lt_of_le hk hB.size) (fun e => by have := hown0 k e.symm; omega)⟩
theorem Wt.newX {w w' : World} {gW : Nat} (X : Nat → Prop) (h : New w w' gW #[.slice none 0 0] 81) : Wt w' gW gW (.slice none 0 0) X [] := ⟨h.row, ⟨[], ⟨rfl, .inl ⟨rfl, rfl⟩⟩, rfl, fun j v hj => by simp at hj⟩, Nat.le_refl _⟩
/-- What Nodes tells. -/
def RNo (w : World) (t : Tr) : Value → World → Prop := fun u w' => (∃ a n c, u = .slice a n c ∧ Bt (fun b => w.heap.size ≤ b ∧ ∀ x, a = some x → b ≠ x.block) w' a n (nodesP t) ∧ (∀ x, a = some x → w.heap.size ≤ x.block) ∧ n ≤ 7600000000000) ∧ Bl w w'
theorem ol_appN {w w' : World} {v u r : Value} {ρ : Operand → Value} {o : Oper} (hr : ∀ ty, (Builtin.append_ #[41, 41] ty #[v, u]).run Tryz.prog w = .ok r w') (x y : Operand) (ho : o.op = .call { callee := .builtin .append, args := #[x, y], argTypes := #[41, 41] }) (hx : ρ x = v) (hy : ρ y = u) : (execOp ρ o).run Tryz.prog w = .ok (.value r) w' := by
  unfold execOp
  simp only [ho, resolve, invoke, builtin, Sem.run_bind, Sem.run_pure, Result.andThen_ok, List.map_toArray, List.map_cons, List.map_nil, hx, hy, hr]
theorem Bt.mono {K K' : Nat → Prop} {w : World} {a : Option Addr} {n : Nat} {M : List (List Int)} (h : Bt K w a n M) (hK : ∀ b, K b → K' b) : Bt K' w a n M := ⟨h.len, fun j hj => by
  obtain ⟨g, off, a', n', c', h1, h2, h3⟩ := h.row j hj
  exact ⟨g, off, a', n', c', h1, h2, h3.mono hK⟩⟩
set_option maxHeartbeats 1000000 in
theorem nodes_no {w : World} {g : Nat} (hr : Rw g w #[.nilIface] 67) :
    Calls Tryz.prog 20 #[.pointer (some ⟨g, 0, none⟩)] w fun e w' => ∃ u, e = .returned u ∧ RNo w no u w' := by
  have hB := Bl.refl w
  refine cw_enter Tryz.func20 rfl 25 rfl ?_
  show CW _ _ _ _ _ _ _ [(0, .pointer (some ⟨g, 0, none⟩))] _
  refine cw_seq ?_
  refine cw_region ?_
  refine rp 2 (.slice none 0 0) ?_
  refine rw_nil ?_
  refine nw_then ?_
  refine cw_seq ?_
  refine cw_seq ?_
  refine cw_region ?_
  refine rp 6 (.pointer (some ⟨g, 0, none⟩)) ?_
  refine rp 7 (.pointer (some ⟨g, 0, none⟩)) ?_
  refine rp 8 (.pointer (some ⟨g, 0, none⟩)) ?_
  refine rv 9 (.nilIface) (fun _ => ol_cell 65 _ ⟨g, 0, none⟩ _ _ rfl (by kernel_rfl) (by rw [cell_of_row _ _ _ _ _ _ hr]; rfl) Tryz.underlying65 rfl) ?_
  refine rp 10 (.bool true) ?_
  refine rw_nil ?_
  refine nw_then ?_
  refine cw_cond_t (fun _ => by kernel_rfl) ?_
  refine cw_seq ?_
  refine cw_region ?_
  refine rp 2 (.slice none 0 0) ?_
  refine rw_nil ?_
  refine nw_then ?_
  refine cw_ret ?_
  refine nw_ret_then ?_
  exact nw_ret_body (.slice none 0 0) (fun _ => by kernel_rfl) ⟨_, rfl, ⟨none, 0, 0, rfl, ⟨rfl, fun j hj => by omega⟩, (fun x hx => by cases hx), by omega⟩, hB⟩
set_option maxHeartbeats 4000000 in
theorem nodes_yes {K : Nat → Prop} {w : World} {g : Nat} {t : Tr} {T0 : TypeId} {v0 : Value} (hr : Rw g w #[.iface T0 v0] 67) (ht : TA K w t (.iface T0 v0)) (hO : Tr.Ok 64 t) (hne : t ≠ no) (hM : (nmd t).length + 1 ≤ 7600000000000) :
    Calls Tryz.prog 20 #[.pointer (some ⟨g, 0, none⟩)] w fun e w' => ∃ u, e = .returned u ∧ RNo w t u w' := by
  have hB := Bl.refl w
  replace ht := ht.old
  refine cw_enter Tryz.func20 rfl 25 rfl ?_
  show CW _ _ _ _ _ _ _ [(0, .pointer (some ⟨g, 0, none⟩))] _
  refine cw_seq ?_
  refine cw_region ?_
  refine rp 2 (.slice none 0 0) ?_
  refine rw_nil ?_
  refine nw_then ?_
  refine cw_seq ?_
  refine cw_seq ?_
  refine cw_region ?_
  refine rp 6 (.pointer (some ⟨g, 0, none⟩)) ?_
  refine rp 7 (.pointer (some ⟨g, 0, none⟩)) ?_
  refine rp 8 (.pointer (some ⟨g, 0, none⟩)) ?_
  refine rv 9 (.iface T0 v0) (fun _ => ol_cell 65 _ ⟨g, 0, none⟩ _ _ rfl (by kernel_rfl) (by rw [cell_of_row _ _ _ _ _ _ hr]; rfl) Tryz.underlying65 rfl) ?_
  refine rp 10 (.bool false) ?_
  refine rw_nil ?_
  refine nw_then ?_
  refine cw_cond_f (fun _ => by kernel_rfl) ?_
  refine cw_skip ?_
  refine nw_then ?_
  refine cw_seq ?_
  refine cw_region ?_
  refine rw_new 3 #[.slice none 0 0] 81 (fun _ => by kernel_rfl) (fun _ => by kernel_rfl) ?_
  intro wW gW hnW
  have hzW := hB.size
  replace hB := hB.go hnW.below
  replace hr := hr.go hnW.below
  replace ht := ht.go hnW.below
  have hgW := hnW.hg
  have hWt := Wt.newX (fun b => w.heap.size ≤ b) hnW
  have hBW := hB
  refine rw_nil ?_
  refine nw_then ?_
  refine cw_seq ?_
  refine cw_region ?_
  refine rp 11 (.pointer (some ⟨g, 0, none⟩)) ?_
  refine rp 12 (.pointer (some ⟨g, 0, none⟩)) ?_
  refine rp 13 (.pointer (some ⟨g, 0, none⟩)) ?_
  refine rv 14 (.iface T0 v0) (fun _ => ol_cell 65 _ ⟨g, 0, none⟩ _ _ rfl (by kernel_rfl) (by rw [cell_of_row _ _ _ _ _ _ hr]; rfl) Tryz.underlying65 rfl) ?_
  refine rw_call 15 40 #[.pointer (some ⟨gW, 0, none⟩), .iface T0 v0] (fun _ => by kernel_rfl) (fun _ => by kernel_rfl) (R := REn wW gW gW (.slice none 0 0) (fun b => w.heap.size ≤ b) [] t) (nds_enc hne (nds_all t hO (by omega)) (ht.mono (K' := KW gW (.slice none 0 0) (fun _ => True)) (fun b hb => ⟨by omega, by simp [Value.ownBlock], trivial⟩)) hWt (fun b hb => Nat.le_trans hBW.size hb) (by simpa using hM)) ?_
  rintro _ u1 ⟨a2, n2, c2, vM, rfl, hs2, hW1, hG, hen⟩
  replace hB := hG.below hB (by omega) rfl
  clear hr ht hWt
  rw [List.nil_append] at hW1
  replace hs2 : Sk (KW gW vM (fun b => w.heap.size ≤ b)) u1 a2 n2 c2 (encT t) := hs2.mono (fun b hb => ⟨hb.1, hb.2.1, Nat.le_trans hBW.size hb.2.2⟩)
  refine rp 4 (.slice a2 n2 c2) ?_
  refine rw_nil ?_
  refine nw_then ?_
  refine cw_seq ?_
  refine cw_region ?_
  refine rp 16 (.pointer (some ⟨gW, 0, none⟩)) ?_
  refine rv 17 (vM) (fun _ => ol_cell 41 _ ⟨gW, 0, none⟩ _ _ rfl (by kernel_rfl) (by rw [cell_of_row _ _ _ _ _ _ hW1.r]; rfl) Tryz.underlying41 rfl) ?_
  refine rp 18 (.slice a2 n2 c2) ?_
  refine rw_newS 19 #[.slice a2 n2 c2] 27 1 (fun _ => by kernel_rfl) (fun _ => by kernel_rfl) ?_
  intro wL gL hnL
  replace hB := hB.go hnL.below
  replace hs2 := hs2.go hnL.below
  replace hW1 := hW1.go hnL.below
  have hL : Rw gL wL #[.slice a2 n2 c2] 27 := hnL.row
  obtain ⟨gb, cap, cur, ps, wA, hrun, hrA, hcA, hszA, hlA, hleA, hgA, hsnd, hgb, hBA⟩ := names_row hW1 hs2 hL hM hB (by omega)
  refine rw_v 20 (.slice (some ⟨gb, 0, none⟩) ((nmd t).length + 1) cap) (fun _ => by kernel_rfl) (fun _ => ol_appN hrun _ _ rfl (by kernel_rfl) (by kernel_rfl)) ?_
  clear hB hs2 hW1 hL
  refine rp 5 (.slice (some ⟨gb, 0, none⟩) ((nmd t).length + 1) cap) ?_
  refine rw_nil ?_
  refine nw_then ?_
  refine cw_seq ?_
  refine cw_region ?_
  refine rp 21 (.slice (some ⟨gb, 0, none⟩) ((nmd t).length + 1) cap) ?_
  refine rw_call 22 41 #[.slice (some ⟨gb, 0, none⟩) ((nmd t).length + 1) cap, .func (.func 42) #[] #[]] (fun _ => by kernel_rfl) (fun _ => by kernel_rfl) (R := fun u w' => u = .tuple #[] ∧ (∃ (ps' : List (Value × List Int)) (cur' : Array Value), ps'.Perm ps ∧ ps'.Pairwise (fun p q => lessP q.2 p.2 = false) ∧ Rw gb w' cur' 27 ∧ cur'.toList.take ((nmd t).length + 1) = ps'.map Prod.fst ∧ cur'.size = cap) ∧ Touch gb wA w') (sort_bytes hrA hcA hszA hlA hleA hgA (fun h => h.1 rfl) (by omega) (by omega)) ?_
  rintro _ u2 ⟨rfl, ⟨ps', cur', hperm, hpair, hrS, hcS, hszS⟩, hto⟩
  have hgS : ∀ p ∈ ps', Gd (fun b => b ≠ gb ∧ w.heap.size ≤ b) u2 p := fun p hp => (hgA p (hperm.mem_iff.1 hp)).tou hto (fun h => h.1 rfl)
  have hBS : Bl w u2 := hto.below hBA hgb hBA.size
  refine rw_nil ?_
  refine nw_then ?_
  refine cw_seq ?_
  refine cw_region ?_
  refine rp 23 (.slice (some ⟨gb, 0, none⟩) ((nmd t).length + 1) cap) ?_
  refine rw_call 24 43 #[.slice (some ⟨gb, 0, none⟩) ((nmd t).length + 1) cap, .func (.func 44) #[] #[]] (fun _ => by kernel_rfl) (fun _ => by kernel_rfl) (R := fun u w' => ∃ k, u = .slice (some ⟨gb, 0, none⟩) k cap ∧ Bt (fun b => b ≠ gb ∧ w.heap.size ≤ b) w' (some ⟨gb, 0, none⟩) k (dd (ps'.map Prod.snd)) ∧ Touch gb u2 w') (compact_any hrS hcS hszS (by rw [hperm.length_eq, hlA]) hleA hgS (fun h => h.1 rfl) (by omega)) ?_
  rintro _ u3 ⟨k3, rfl, hbt, hto3⟩
  have hB3 : Bl w u3 := hto3.below hBS hgb hBS.size
  refine rp 2 (.slice (some ⟨gb, 0, none⟩) k3 cap) ?_
  refine rw_nil ?_
  refine nw_then ?_
  refine cw_ret ?_
  have hM2 : dd (ps'.map Prod.snd) = nodesP t := by
    rw [nodes_eq (M := nmd t ++ [encT t]) (by rw [← hsnd]; exact hperm.map _) (List.pairwise_map.2 hpair)]; unfold nodesP; rw [if_neg (fun e => hne (isNo_iff.1 e))]
  have hk3 : k3 ≤ (nmd t).length + 1 := by rw [← hbt.len]; refine Nat.le_trans (dd_len _) ?_; rw [List.length_map, hperm.length_eq, hlA]; exact Nat.le_refl _
  rw [hM2] at hbt
  exact nw_ret_body (.slice (some ⟨gb, 0, none⟩) k3 cap) (fun _ => by kernel_rfl) ⟨_, rfl, ⟨_, _, _, rfl, hbt.mono (fun b hb => ⟨hb.2, fun x hx => by cases hx; exact hb.1⟩), (fun x hx => by cases hx; exact hgb), by omega⟩, hB3⟩
theorem nodes_any {K : Nat → Prop} {w : World} {g : Nat} {t : Tr} (h : Tri K w g t) (hM : (nmd t).length + 1 ≤ 7600000000000) :
    Calls Tryz.prog 20 #[.pointer (some ⟨g, 0, none⟩)] w fun e w' => ∃ u, e = .returned u ∧ RNo w t u w' := by
  obtain ⟨⟨v, h1, h2⟩, h3⟩ := h
  rcases h3 with rfl | hO
  · rw [show v = .nilIface from h2] at h1
    exact nodes_no h1
  · have hne := hO.ne
    obtain ⟨T0, v0, rfl⟩ := h2.iface hne
    exact nodes_yes h1 h2 hO hne hM
end Go.Proofs.YtalhnnjpjaeakaaGreat

/- What the document's Common answers. -/
import Derived.Test.YtalhnnjpjaeakaaGreatG02
import Derived.Test.YtalhnnjpjaeakaaGreatG33
import Derived.Test.YtalhnnjpjaeakaaGreatG00
import Derived.Test.YtalhnnjpjaeakaaGreatG01
namespace Go.Proofs.YtalhnnjpjaeakaaGreat.Ni
open Go.RowKit
set_option linter.unusedVariables false
end Go.Proofs.YtalhnnjpjaeakaaGreat.Ni
/- The document's Alike and Under. -/
namespace Go.Proofs.YtalhnnjpjaeakaaGreat
open Go.RowKit
open Tr
set_option linter.unusedVariables false
set_option maxRecDepth 100000
end Go.Proofs.YtalhnnjpjaeakaaGreat
/- The document's Same, of two lists that say the same. -/
namespace Go.Proofs.YtalhnnjpjaeakaaGreat
open Go.RowKit
open Tr
set_option linter.unusedVariables false
set_option maxRecDepth 100000
set_option maxHeartbeats 2000000 in
theorem rsame_same {K K' : Nat → Prop} {w : World} {a a' : Option Addr} {n c c' : Nat} {vs vs' : List (Value × Value)} {l : PList} (hl : PAt K w a n c vs l) (hm : PAt K' w a' n c' vs' l) (hb : n ≤ 2600000000000) :
    Calls Tryz.prog 27 #[.slice a n c, .slice a' n c'] w fun e w' => ∃ u, e = .returned u ∧ (fun u w' => u = .bool true ∧ Bl w w') u w' := by
  have hB := Bl.refl w
  have ll := hl.ll
  refine cw_enter Tryz.func27 rfl 45 rfl ?_
  show CW _ _ _ _ _ _ _ [(0, .slice a n c), (1, .slice a' n c')] _
  refine cw_seq ?_
  refine cw_region ?_
  refine rp 4 (.bool false) ?_
  refine rw_nil ?_
  refine nw_then ?_
  refine cw_seq ?_
  refine cw_seq ?_
  refine cw_region ?_
  refine rp 6 (.slice a n c) ?_
  refine rp 7 (.int .i64 n) ?_
  refine rp 8 (.slice a' n c') ?_
  refine rp 9 (.int .i64 n) ?_
  refine rv 10 (.bool false) (fun _ => ol_conv (v := .bool (!((n : Int) == (n : Int)))) (by kernel_rfl) (congrArg Value.bool (by simp))) ?_
  refine rw_nil ?_
  refine nw_then ?_
  refine cw_cond_f (fun _ => by kernel_rfl) ?_
  refine cw_skip ?_
  refine nw_then ?_
  refine cw_seq ?_
  refine cw_seq ?_
  refine cw_region ?_
  refine rp 5 (.int .i64 0) ?_
  refine rw_nil ?_
  refine nw_then ?_
  refine cw_block ?_
  refine cw_loop (X := Nat) (fun j => [(5, .int .i64 ((j : Nat) : Int)), (0, .slice a n c), (1, .slice a' n c')]) (fun j v => Bl w v ∧ j ≤ n) (fun j => n - j) 0 (by exact ⟨fun _ => by kernel_rfl, ⟨fun _ => by kernel_rfl, ⟨fun _ => by kernel_rfl, trivial⟩⟩⟩) ⟨hB, Nat.zero_le _⟩ ?_
  clear hB
  rintro j v ⟨hB, hj⟩
  by_cases hlt : j < n
  · skip
    obtain ⟨gE, oE, a1, n1, c1, a2, n2, c2, k, x, ea, hej, hc1, hc2, hs1, hs2⟩ := hl.at hlt
    subst ea
    obtain ⟨gF, oF, a3, n3, c3, a4, n4, c4, k2, x2, ea, hek, hc3, hc4, hs3, hs4⟩ := hm.at hlt
    subst ea
    rw [hej] at hek
    cases hek
    refine cw_seq ?_
    refine cw_seq ?_
    refine cw_region ?_
    refine rp 11 (.int .i64 ((j : Nat) : Int)) ?_
    refine rp 12 (.slice (some ⟨gE, oE, none⟩) n c) ?_
    refine rp 13 (.int .i64 n) ?_
    refine rv 14 (.bool true) (fun _ => ol_conv (v := .bool (decide (((j : Nat) : Int) < (n : Int)))) (by kernel_rfl) (congrArg Value.bool (decide_eq_true (by omega)))) ?_
    refine rw_nil ?_
    refine nw_then ?_
    refine cw_cond_t (fun _ => by kernel_rfl) ?_
    refine cw_skip ?_
    refine nw_then ?_
    refine cw_seq ?_
    refine cw_block ?_
    refine cw_seq ?_
    refine cw_draw (fun v => Bl w v) (by kernel_rfl) (hB.drew) ?_
    replace hB := hB.drew
    refine dt 0 17 (.slice (some ⟨gE, oE, none⟩) n c) (fun v hv _ => by kernel_rfl) hB ?_
    refine dt 1 18 (.int .i64 ((j : Nat) : Int)) (fun v hv _ => by kernel_rfl) hB ?_
    refine dt 2 19 (.pointer (some ⟨gE, oE + j * 2, none⟩)) (fun v hv _ => ol_index 26 _ _ gE oE j n c 2 45 rfl (by kernel_rfl) (by kernel_rfl) hlt Tryz.underlying26 (by kernel_rfl)) hB ?_
    refine dt 3 20 (.pointer (some ⟨gE, oE + j * 2, none⟩)) (fun v hv _ => by kernel_rfl) hB ?_
    refine dt 4 21 (.slice a1 n1 c1) (fun v hv _ => ol_cell 27 _ _ _ _ rfl (by kernel_rfl) ((Below.cell hv (block_lt_of_cell hc1)).trans hc1) Tryz.underlying27 rfl) hB ?_
    refine dt 5 22 (.string (strOfNums k)) (fun v hv _ => (hs1.go hv).run_str _ _ _ rfl (by kernel_rfl)) hB ?_
    refine dt 6 23 (.slice (some ⟨gF, oF, none⟩) n c') (fun v hv _ => by kernel_rfl) hB ?_
    refine dt 7 24 (.int .i64 ((j : Nat) : Int)) (fun v hv _ => by kernel_rfl) hB ?_
    refine dt 8 25 (.pointer (some ⟨gF, oF + j * 2, none⟩)) (fun v hv _ => ol_index 26 _ _ gF oF j n c' 2 45 rfl (by kernel_rfl) (by kernel_rfl) hlt Tryz.underlying26 (by kernel_rfl)) hB ?_
    refine dt 9 26 (.pointer (some ⟨gF, oF + j * 2, none⟩)) (fun v hv _ => by kernel_rfl) hB ?_
    refine dt 10 27 (.slice a3 n3 c3) (fun v hv _ => ol_cell 27 _ _ _ _ rfl (by kernel_rfl) ((Below.cell hv (block_lt_of_cell hc3)).trans hc3) Tryz.underlying27 rfl) hB ?_
    refine dt 11 28 (.string (strOfNums k)) (fun v hv _ => (hs3.go hv).run_str _ _ _ rfl (by kernel_rfl)) hB ?_
    refine dt 12 29 (.bool false) (fun v hv _ => ol_nes 9 _ _ _ (strOfNums k) (strOfNums k) rfl (by kernel_rfl) (by kernel_rfl) (by simp)) hB ?_
    refine dt 13 30 (.bool false) (fun v hv _ => by kernel_rfl) hB ?_
    refine dt 14 31 (.slice (some ⟨gE, oE, none⟩) n c) (fun v hv _ => by kernel_rfl) hB ?_
    refine dt 15 32 (.int .i64 ((j : Nat) : Int)) (fun v hv _ => by kernel_rfl) hB ?_
    refine dt 16 33 (.pointer (some ⟨gE, oE + j * 2, none⟩)) (fun v hv _ => ol_index 26 _ _ gE oE j n c 2 45 rfl (by kernel_rfl) (by kernel_rfl) hlt Tryz.underlying26 (by kernel_rfl)) hB ?_
    refine dt 17 34 (.pointer (some ⟨gE, oE + j * 2 + 1, none⟩)) (fun v hv _ => by kernel_rfl) hB ?_
    refine dt 18 35 (.slice a2 n2 c2) (fun v hv _ => ol_cell 27 _ _ _ _ rfl (by kernel_rfl) ((Below.cell hv (block_lt_of_cell hc2)).trans hc2) Tryz.underlying27 rfl) hB ?_
    refine dt 19 36 (.string (strOfNums x)) (fun v hv _ => (hs2.go hv).run_str _ _ _ rfl (by kernel_rfl)) hB ?_
    refine dt 20 37 (.slice (some ⟨gF, oF, none⟩) n c') (fun v hv _ => by kernel_rfl) hB ?_
    refine dt 21 38 (.int .i64 ((j : Nat) : Int)) (fun v hv _ => by kernel_rfl) hB ?_
    refine dt 22 39 (.pointer (some ⟨gF, oF + j * 2, none⟩)) (fun v hv _ => ol_index 26 _ _ gF oF j n c' 2 45 rfl (by kernel_rfl) (by kernel_rfl) hlt Tryz.underlying26 (by kernel_rfl)) hB ?_
    refine dt 23 40 (.pointer (some ⟨gF, oF + j * 2 + 1, none⟩)) (fun v hv _ => by kernel_rfl) hB ?_
    refine dt 24 41 (.slice a4 n4 c4) (fun v hv _ => ol_cell 27 _ _ _ _ rfl (by kernel_rfl) ((Below.cell hv (block_lt_of_cell hc4)).trans hc4) Tryz.underlying27 rfl) hB ?_
    refine dt 25 42 (.string (strOfNums x)) (fun v hv _ => (hs4.go hv).run_str _ _ _ rfl (by kernel_rfl)) hB ?_
    refine dt 26 43 (.bool false) (fun v hv _ => ol_nes 9 _ _ _ (strOfNums x) (strOfNums x) rfl (by kernel_rfl) (by kernel_rfl) (by simp)) hB ?_
    refine dt 27 44 (.bool false) (fun v hv _ => by kernel_rfl) hB ?_
    refine dw_done (by kernel_rfl) ?_
    refine nw_then ?_
    refine cw_cond_f (fun _ => by kernel_rfl) ?_
    refine cw_skip ?_
    refine nw_block ?_
    refine nw_then ?_
    refine cw_region ?_
    refine rp 15 (.int .i64 ((j : Nat) : Int)) ?_
    refine rv 16 (.int .i64 (((j : Nat) : Int) + 1)) (fun _ => ol_conv (v := .int .i64 (IntKind.i64.wrap (((j : Nat) : Int) + 1))) (by kernel_rfl) (congrArg (Value.int .i64) (wrap64 (by omega) (by omega)))) ?_
    refine rp 5 (.int .i64 (((j : Nat) : Int) + 1)) ?_
    refine rw_nil ?_
    exact nw_round (E := fun j => [(5, .int .i64 ((j : Nat) : Int)), (0, .slice (some ⟨gE, oE, none⟩) n c), (1, .slice (some ⟨gF, oF, none⟩) n c')]) (R := fun j v => Bl w v ∧ j ≤ n) (μ := fun j => n - j) (x := j) (j + 1) (by exact ⟨fun _ => by kernel_rfl, ⟨fun _ => by kernel_rfl, ⟨fun _ => by kernel_rfl, trivial⟩⟩⟩) ⟨hB, by omega⟩ (by show n - (j + 1) < n - j; omega)
  obtain rfl : j = n := by omega
  show CW _ _ _ _ _ _ _ [(5, .int .i64 ((j : Nat) : Int)), (0, .slice a j c), (1, .slice a' j c')] _
  refine cw_seq ?_
  refine cw_seq ?_
  refine cw_region ?_
  refine rp 11 (.int .i64 ((j : Nat) : Int)) ?_
  refine rp 12 (.slice a j c) ?_
  refine rp 13 (.int .i64 j) ?_
  refine rv 14 (.bool false) (fun _ => ol_conv (v := .bool (decide (((j : Nat) : Int) < (j : Int)))) (by kernel_rfl) (congrArg Value.bool (decide_eq_false (by omega)))) ?_
  refine rw_nil ?_
  refine nw_then ?_
  refine cw_cond_f (fun _ => by kernel_rfl) ?_
  refine cw_exit ?_
  refine nw_exit_then ?_
  refine nw_exit_then ?_
  refine nw_exit_here ?_
  refine nw_then ?_
  refine cw_seq ?_
  refine cw_region ?_
  refine rp 4 (.bool true) ?_
  refine rw_nil ?_
  refine nw_then ?_
  refine cw_ret ?_
  exact nw_ret_body (.bool true) (fun _ => by kernel_rfl) ⟨_, rfl, rfl, hB⟩
end Go.Proofs.YtalhnnjpjaeakaaGreat
/- What the document's Right answers. -/
namespace Go.Proofs.YtalhnnjpjaeakaaGreat.Ni
open Go.RowKit
set_option linter.unusedVariables false
set_option maxHeartbeats 400000 in
theorem rright_any (a : Option Addr) (n c : Nat) (b : List Int) (w : World) (h : Ag w a n c b) (hn : n ≤ 140737488355328) :
    Calls Tryz.prog 72 #[.slice a n c] w fun e w' => e = .returned (.bool (rightP b)) ∧ w' = w := by
  have HL := Hid.mk h.l
  have HC : Hid (0 < n → ∃ g off, a = some ⟨g, off, none⟩ ∧ n ≤ c ∧ c ≤ maxLen ∧ ∀ j, j < n → w.cell? ⟨g, off + j, none⟩ = some (.int .u8 (b.getD j 0))) := Hid.mk (ag_head h)
  have HB := Hid.mk h.b
  clear h
  obtain ⟨res, hres⟩ : ∃ r, rightP b = r := ⟨_, rfl⟩
  rw [hres]
  have HRES := Hid.mk hres
  clear hres
  go_enter Tryz.func72, Tryz.ntmps72
  go_wp2_with fail
  go_loopw [3] (fun i v => ∃ j : Nat, j ≤ n ∧ i = .int .i64 j ∧ (∀ i, i < j → b.getD i 0 ≤ 15) ∧ v = w) (fun i _ => n - (intOf i).toNat)
  case atStart => exact ⟨0, by omega, rfl, fun i hi => by omega, rfl⟩
  case round =>
    obtain ⟨j, hj, rfl, hle, rfl⟩ := hrel
    have HLE := Hid.mk hle
    clear hle
    by_cases hlt : j < n
    · obtain ⟨g, off, rfl, hnc, hcm, hcs⟩ := HC.out (by omega)
      unfold maxLen at hcm
      have hcell := hcs j hlt
      have hx := HB.out _ (getD_mem (show j < b.length by have := HL.out; omega))
      have HX : Hid (b.getD j 0 > 15 → rightP b = false) := Hid.mk (fun h => right_no (by have := HL.out; omega) h)
      have HY : Hid (b.getD j 0 ≤ 15 → ∀ i, i < j + 1 → b.getD i 0 ≤ 15) := Hid.mk (fun h i hi => by
        by_cases e : i = j
        · rw [e]; exact h
        · exact HLE.out i (by omega))
      generalize b.getD j 0 = x at hcell hx HX HY
      obtain ⟨hx0, hx1⟩ := hx
      have hji : (j : Int) < n := by omega
      clear hcs
      by_cases h15 : x > 15
      · have e : res = false := HRES.out.symm.trans (HX.out h15)
        subst e
        go_wp2_with fail
        go_ret
        exact ⟨rfl, rfl⟩
      · have h15' : ¬ x > 15 := h15
        go_wp2_with fail
        exact ⟨⟨j + 1, by omega, by simp, HY.out (by omega), trivial⟩, by simp [intOf]; omega⟩
    · have hji : ¬ (j : Int) < n := by omega
      have e : res = true := HRES.out.symm.trans (right_yes fun i hi => HLE.out i (by have := HL.out; omega))
      subst e
      go_wp2_with fail
      go_ret
      exact ⟨rfl, rfl⟩
end Go.Proofs.YtalhnnjpjaeakaaGreat.Ni

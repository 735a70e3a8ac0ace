/- What the document's Decode of accounts answers; same. -/
import Derived.Test.YtmaajddofmahpaaG33
import Derived.Test.YtmaajddofmahpaaG22
namespace Go.Proofs.Ytmaajddofmahpaa
open Go.RowKit
open Di (dref)
set_option linter.unusedVariables false
set_option maxRecDepth 100000
def dd32 (b : List Int) : List Int := (b ++ List.replicate 32 0).take 32
def R4 (w : World) (x0 x1 x2 x3 : T) : Value → World → Prop := fun v w' => (∃ (yl : Bool) (yba : Option Addr) (ybn ybc g off yic : Nat) (y0 y1 y2 y3 : V), v = .tuple #[.agg #[.bool yl, .slice yba ybn ybc, .slice (some ⟨g, off, none⟩) 4 yic], .int .i64 0] ∧ w'.rangeAt g (off + 0 * 3) (IL y0) ∧ w'.rangeAt g (off + 1 * 3) (IL y1) ∧ w'.rangeAt g (off + 2 * 3) (IL y2) ∧ w'.rangeAt g (off + 3 * 3) (IL y3) ∧ Lies w' x0 y0 ∧ Lies w' x1 y1 ∧ Lies w' x2 y2 ∧ Lies w' x3 y3) ∧ Bl w w'
theorem wsame {w : World} {x1 x2 : Option Addr} {n1 c1 n2 c2 : Nat} {b1 b2 : List Int} (h1 : Ag w x1 n1 c1 b1) (h2 : Ag w x2 n2 c2 b2) : Calls Try.prog 10 #[.slice x1 n1 c1, .slice x2 n2 c2] w fun e w' => ∃ v, e = .returned v ∧ RVl w (.bool (decide (b1 = b2))) v w' := by
  have hB : Bl w w := Bl.refl w
  refine cw_enter Try.func10 rfl 10 rfl ?_
  show CW _ _ _ _ _ _ _ [(0, .slice x1 n1 c1), (1, .slice x2 n2 c2)] _
  refine cw_seq ?_
  refine cw_region ?_
  refine rp 4 (.bool false) ?_
  refine rw_nil ?_
  refine nw_then ?_
  refine cw_seq ?_
  refine cw_region ?_
  refine rp 5 (.slice x1 n1 c1) ?_
  refine rv 6 (.string (strOfNums b1)) (fun _ => h1.run_str _ _ _ rfl (by kernel_rfl)) ?_
  refine rp 7 (.slice x2 n2 c2) ?_
  refine rv 8 (.string (strOfNums b2)) (fun _ => h2.run_str _ _ _ rfl (by kernel_rfl)) ?_
  refine rv 9 (.bool (decide (b1 = b2))) (fun _ => ol_eqs 9 _ _ _ _ _ rfl (by kernel_rfl) (by kernel_rfl) (strs_eq h1.b h2.b)) ?_
  refine rp 4 (.bool (decide (b1 = b2))) ?_
  refine rw_nil ?_
  refine nw_then ?_
  refine cw_ret ?_
  refine nw_ret_body (.bool (decide (b1 = b2))) (fun _ => by kernel_rfl) ?_
  exact ⟨_, rfl, rfl, hB⟩
end Go.Proofs.Ytmaajddofmahpaa
/- The laws of accounts. -/
namespace Go.Proofs.Ytmaajddofmahpaa
open Go.RowKit
open Di (dref)
set_option linter.unusedVariables false
set_option maxRecDepth 100000
theorem wsame_e {w : World} {x1 x2 : Option Addr} {n1 c1 n2 c2 : Nat} {b1 b2 : List Int} (h1 : Ag w x1 n1 c1 b1) (h2 : Ag w x2 n2 c2 b2) (e : b1 = b2) : Calls Try.prog 10 #[.slice x1 n1 c1, .slice x2 n2 c2] w fun e w' => ∃ v, e = .returned v ∧ RVl w (.bool true) v w' := by
  have := wsame h1 h2
  rw [decide_eq_true e] at this
  exact this
theorem eqP_self (a : PA) : eqP a a = true := eqP_iff.2 rfl
theorem wis_e (w : World) : Calls Try.prog 13 #[.agg (AV eA).toArray] w fun e w' => ∃ v, e = .returned v ∧ RVl w (.bool true) v w' := by
  have := wis eA eA_ok w
  rw [eqP_self] at this
  exact this
def a51 : PA := ⟨5, 1000, z32, z32⟩
theorem a51_ok : okA a51 := ⟨by decide, by decide, rfl, zA_ok.cb, rfl, zA_ok.cb⟩
theorem a51_len : (enA a51).length = 72 := by decide +kernel
theorem a51_two : (enA a51).getD 2 0 = 5 := by decide +kernel
theorem be256 : be 256 = [1, 0] := by decide +kernel
theorem wvalue256 (w : World) : Calls Try.prog 19 #[.int .u64 256] w fun e w' => ∃ v, e = .returned v ∧ RSl w [1, 0] v w' := by
  have := wvalue 256 (by decide) w
  rw [be256] at this
  exact this
/-- What a law's call comes to. -/
def Law12 (w : World) : Ending → World → Prop := fun e w' => e = .returned (.bool true) ∧ Below w.heap.size w w'
theorem cell_go {w w' : World} {g o : Nat} {v : Value} (h : w.cell? ⟨g, o, none⟩ = some v) (hb : Below w.heap.size w w') : w'.cell? ⟨g, o, none⟩ = some v := below_cell hb h
set_option maxHeartbeats 1000000 in
theorem walive (w : World) : Calls Try.prog 9 #[] w fun e w' => ∃ v, e = .returned v ∧ RVl w (.bool true) v w' := by
  have hB : Bl w w := Bl.refl w
  refine cw_enter Try.func9 rfl 29 rfl ?_
  show CW _ _ _ _ _ _ _ [] _
  refine cw_seq ?_
  refine cw_region ?_
  refine rp 0 (.bool false) ?_
  refine rw_nil ?_
  refine nw_then ?_
  refine cw_seq ?_
  refine cw_region ?_
  refine rw_call 3 21 #[] (fun _ => by kernel_rfl) (fun _ => by kernel_rfl) (R := RVl w (.agg (AV eA).toArray)) (wempty w) ?_
  rintro _ w1 ⟨rfl, hb2⟩
  replace hB := hB.go hb2
  refine rw_new 1 ((AV zA).toArray) 26 (fun _ => by kernel_rfl) (fun _ => by kernel_rfl) ?_
  intro w3 g4 hn5
  have hr6 : Rw g4 w3 ((AV zA).toArray) 26 := hn5.row
  refine rw_put g4 ((AV eA).toArray) (fun _ => by kernel_rfl) (fun _ => ol_store 26 _ _ _ _ _ 26 rfl (by kernel_rfl) (by kernel_rfl) hr6 (infoA eA_ok) (AV_size zA_ok eA_ok) (AV_one _)) ?_
  intro w7 hp8
  have hbg4 : Below w1.heap.size w1 w7 := hp8.below hn5.below (Nat.le_of_eq hn5.hg.symm) (by have := hn5.size; have := hn5.hg; omega)
  have hzg4 : w.heap.size ≤ g4 := by have := hB.size; have := hn5.hg; omega
  replace hB := hB.go hbg4
  have hr9 : Rw g4 w7 ((AV eA).toArray) 26 := hr6.put hp8
  refine rw_nil ?_
  refine nw_then ?_
  refine cw_seq ?_
  refine cw_region ?_
  refine rv 4 (.agg (AV (⟨5, 1000, z32, z32⟩ : PA)).toArray) (fun _ => ol_build 26 _ rfl [(0, .int .u64 5), (1, .int .u64 1000)] (by kernel_rfl) _ built_A5) ?_
  refine rw_call 5 11 #[.agg (AV (⟨5, 1000, z32, z32⟩ : PA)).toArray] (fun _ => by kernel_rfl) (fun _ => by kernel_rfl) (R := RSl w7 (enA a51)) (wenc a51 a51_ok w7) ?_
  rintro _ w13 ⟨⟨a10, n11, c12, rfl, ha14⟩, hb15⟩
  replace hB := hB.go hb15
  replace hr9 := hr9.go hb15
  refine rp 2 (.slice a10 n11 c12) ?_
  refine rw_nil ?_
  refine nw_then ?_
  refine cw_seq ?_
  obtain rfl : 72 = n11 := a51_len.symm.trans ha14.l
  obtain ⟨gb, off, rfl, _, _, hcs⟩ := ag_head ha14 (by omega)
  have hc2 := hcs 2 (by omega)
  rw [a51_two] at hc2
  clear ha14
  refine cw_draw (fun v => Rw g4 v (AV eA).toArray 26 ∧ v.cell? ⟨gb, off + 2, none⟩ = some (.int .u8 5)) (by kernel_rfl) (⟨hr9, hc2⟩) ?_
  replace hB := hB.go (Below.refl _ _).drew
  replace hr9 := hr9.go (Below.refl _ _).drew
  replace hc2 := cell_go hc2 (Below.refl _ _).drew
  refine dt 0 6 (.agg ((AV eA).toArray)) (fun v hv _ => ol_row 26 _ _ _ _ _ _ rfl (by kernel_rfl) hv.1 Try.underlying26 rfl (infoA eA_ok)) ⟨hr9, hc2⟩ ?_
  refine dw_ready [1] (by kernel_rfl) (by simp) ?_
  refine ar_call 1 7 13 #[.agg ((AV eA).toArray)] rfl (fun _ => by kernel_rfl) (fun _ => by kernel_rfl) (R := RVl w13.drew (.bool true)) (wis_e w13.drew) (fun u w' h9 => ⟨hr9.go h9.2, cell_go hc2 h9.2⟩) ?_ ar_nil
  rintro _ w16 ⟨rfl, hb17⟩
  replace hB := hB.go hb17
  replace hr9 := hr9.go hb17
  replace hc2 := cell_go hc2 hb17
  refine dt 2 8 (.bool true) (fun v hv _ => by kernel_rfl) ⟨hr9, hc2⟩ ?_
  refine dt 3 9 (.agg ((AV eA).toArray)) (fun v hv _ => ol_row 26 _ _ _ _ _ _ rfl (by kernel_rfl) hv.1 Try.underlying26 rfl (infoA eA_ok)) ⟨hr9, hc2⟩ ?_
  refine dw_ready [4] (by kernel_rfl) (by simp) ?_
  refine ar_call 4 10 14 #[] rfl (fun _ => by kernel_rfl) (fun _ => by kernel_rfl) (R := RVl w16 (.agg (AV eA).toArray)) (rwempty w16) (fun u w' h9 => ⟨hr9.go h9.2, cell_go hc2 h9.2⟩) ?_ ar_nil
  rintro _ w18 ⟨rfl, hb19⟩
  replace hB := hB.go hb19
  replace hr9 := hr9.go hb19
  replace hc2 := cell_go hc2 hb19
  refine dt 5 11 (.bool true) (fun v hv => (fun _ => ol_conv (ol_eqlA rfl (by kernel_rfl) (by kernel_rfl) eA_ok eA_ok) (congrArg Value.bool (eqP_self _)))) ⟨hr9, hc2⟩ ?_
  refine dt 6 12 (.bool true) (fun v hv _ => by kernel_rfl) ⟨hr9, hc2⟩ ?_
  refine dt 7 13 (.bool true) (fun v hv _ => by kernel_rfl) ⟨hr9, hc2⟩ ?_
  refine dt 8 14 (.slice (some ⟨gb, off, none⟩) 72 c12) (fun v hv _ => by kernel_rfl) ⟨hr9, hc2⟩ ?_
  refine dt 9 15 (.int .i64 72) (fun v hv _ => by kernel_rfl) ⟨hr9, hc2⟩ ?_
  refine dt 10 16 (.bool true) (fun v hv _ => by kernel_rfl) ⟨hr9, hc2⟩ ?_
  refine dt 11 17 (.bool true) (fun v hv _ => by kernel_rfl) ⟨hr9, hc2⟩ ?_
  refine dt 12 18 (.bool true) (fun v hv _ => by kernel_rfl) ⟨hr9, hc2⟩ ?_
  refine dt 13 19 (.slice (some ⟨gb, off, none⟩) 72 c12) (fun v hv _ => by kernel_rfl) ⟨hr9, hc2⟩ ?_
  refine dt 14 20 (.pointer (some ⟨gb, off + 2 * 1, none⟩)) (fun v hv _ => ol_index 29 _ _ gb off 2 72 c12 1 5 rfl (by kernel_rfl) (by kernel_rfl) (by omega) Try.underlying29 (by kernel_rfl)) ⟨hr9, hc2⟩ ?_
  refine dt 15 21 (.int .u8 5) (fun v hv _ => ol_cell 5 _ ⟨gb, off + 2 * 1, none⟩ _ _ rfl (by kernel_rfl) hv.2 Try.underlying5 rfl) ⟨hr9, hc2⟩ ?_
  refine dt 16 22 (.bool true) (fun v hv _ => by kernel_rfl) ⟨hr9, hc2⟩ ?_
  refine dt 17 23 (.bool true) (fun v hv _ => by kernel_rfl) ⟨hr9, hc2⟩ ?_
  refine dt 18 24 (.bool true) (fun v hv _ => by kernel_rfl) ⟨hr9, hc2⟩ ?_
  refine dw_ready [19, 20] (by kernel_rfl) (by simp) ?_
  refine ar_call 19 25 19 #[.int .u64 256] rfl (fun _ => by kernel_rfl) (fun _ => by kernel_rfl) (R := RSl w18 ([1, 0])) (wvalue256 w18) (fun u w' h9 => ⟨hr9.go h9.2, cell_go hc2 h9.2⟩) ?_ ?_
  · skip
    rintro _ w23 ⟨⟨a20, n21, c22, rfl, ha24⟩, hb25⟩
    replace hB := hB.go hb25
    replace hr9 := hr9.go hb25
    replace hc2 := cell_go hc2 hb25
    refine dw_ready [20] (by kernel_rfl) (by simp) ?_
    refine ar_newS 20 26 #[.int .u8 1, .int .u8 0] 5 2 rfl (fun _ => by kernel_rfl) (fun _ => by kernel_rfl) (fun w' g h9 => ⟨hr9.go h9.below, cell_go hc2 h9.below⟩) ?_ ar_nil
    intro w26 g27 hn28
    replace hB := hB.go hn28.below
    replace hr9 := hr9.go hn28.below
    replace hc2 := cell_go hc2 hn28.below
    replace ha24 := ha24.go hn28.below
    have ha29 : Ag w26 (some ⟨g27, 0, none⟩) 2 2 [1, 0] := row_ag (show Row g27 w26 [1, 0] from hn28.row) rfl (fun x hx => by simp at hx; omega) (by omega)
    refine dw_ready [21] (by kernel_rfl) (by simp) ?_
    refine ar_call 21 27 10 #[.slice a20 n21 c22, .slice (some ⟨g27, 0, none⟩) 2 2] rfl (fun _ => by kernel_rfl) (fun _ => by kernel_rfl) (R := RVl w26 (.bool true)) (wsame_e ha24 ha29 rfl) (fun u w' h9 => ⟨hr9.go h9.2, cell_go hc2 h9.2⟩) ?_ ar_nil
    rintro _ w30 ⟨rfl, hb31⟩
    replace hB := hB.go hb31
    replace hr9 := hr9.go hb31
    replace hc2 := cell_go hc2 hb31
    replace ha24 := ha24.go hb31
    replace ha29 := ha29.go hb31
    refine dt 22 28 (.bool true) (fun v hv _ => by kernel_rfl) ⟨hr9, hc2⟩ ?_
    refine dt 23 0 (.bool true) (fun v hv _ => by kernel_rfl) ⟨hr9, hc2⟩ ?_
    refine dw_done (by kernel_rfl) ?_
    refine nw_then ?_
    refine cw_ret ?_
    refine nw_ret_body (.bool true) (fun _ => by kernel_rfl) ?_
    exact ⟨_, rfl, rfl, hB⟩
  refine ar_newS 20 26 #[.int .u8 1, .int .u8 0] 5 2 rfl (fun _ => by kernel_rfl) (fun _ => by kernel_rfl) (fun w' g h9 => ⟨hr9.go h9.below, cell_go hc2 h9.below⟩) ?_ ar_nil
  intro w32 g33 hn34
  replace hB := hB.go hn34.below
  replace hr9 := hr9.go hn34.below
  replace hc2 := cell_go hc2 hn34.below
  have ha35 : Ag w32 (some ⟨g33, 0, none⟩) 2 2 [1, 0] := row_ag (show Row g33 w32 [1, 0] from hn34.row) rfl (fun x hx => by simp at hx; omega) (by omega)
  refine dw_ready [19] (by kernel_rfl) (by simp) ?_
  refine ar_call 19 25 19 #[.int .u64 256] rfl (fun _ => by kernel_rfl) (fun _ => by kernel_rfl) (R := RSl w32 ([1, 0])) (wvalue256 w32) (fun u w' h9 => ⟨hr9.go h9.2, cell_go hc2 h9.2⟩) ?_ ar_nil
  rintro _ w39 ⟨⟨a36, n37, c38, rfl, ha40⟩, hb41⟩
  replace hB := hB.go hb41
  replace hr9 := hr9.go hb41
  replace hc2 := cell_go hc2 hb41
  replace ha35 := ha35.go hb41
  refine dw_ready [21] (by kernel_rfl) (by simp) ?_
  refine ar_call 21 27 10 #[.slice a36 n37 c38, .slice (some ⟨g33, 0, none⟩) 2 2] rfl (fun _ => by kernel_rfl) (fun _ => by kernel_rfl) (R := RVl w39 (.bool true)) (wsame_e ha40 ha35 rfl) (fun u w' h9 => ⟨hr9.go h9.2, cell_go hc2 h9.2⟩) ?_ ar_nil
  rintro _ w42 ⟨rfl, hb43⟩
  replace hB := hB.go hb43
  replace hr9 := hr9.go hb43
  replace hc2 := cell_go hc2 hb43
  replace ha35 := ha35.go hb43
  replace ha40 := ha40.go hb43
  refine dt 22 28 (.bool true) (fun v hv _ => by kernel_rfl) ⟨hr9, hc2⟩ ?_
  refine dt 23 0 (.bool true) (fun v hv _ => by kernel_rfl) ⟨hr9, hc2⟩ ?_
  refine dw_done (by kernel_rfl) ?_
  refine nw_then ?_
  refine cw_ret ?_
  refine nw_ret_body (.bool true) (fun _ => by kernel_rfl) ?_
  exact ⟨_, rfl, rfl, hB⟩
set_option maxHeartbeats 1000000 in
theorem unlike_nat (a d : PA) (m : Nat) (oka : okA a) (okd : okA d) (hm : m < W64) (w : World) : Calls Try.prog 8 #[.agg (AV a).toArray, .agg (AV d).toArray, .int .u64 ((m : Nat) : Int)] w (Law12 w) := by
  have heq : (decide (enA a = enA d) == eqP a d) = true := by
    rw [beq_iff_eq]
    cases hq : eqP a d with
    | true => rw [eqP_iff.1 hq]; simp
    | false => rw [decide_eq_false_iff_not]; intro e; rw [enA_inj oka okd e, eqP_self] at hq; cases hq
  have hB : Bl w w := Bl.refl w
  refine cw_enter Try.func8 rfl 28 rfl ?_
  show CW _ _ _ _ _ _ _ [(0, .agg (AV a).toArray), (1, .agg (AV d).toArray), (2, .int .u64 ((m : Nat) : Int))] _
  refine cw_seq ?_
  refine cw_region ?_
  refine rw_new 3 ((AV a).toArray) 26 (fun _ => by kernel_rfl) (fun _ => by kernel_rfl) ?_
  intro w1 g2 hn3
  have hzg2 : w.heap.size ≤ g2 := by have := hB.size; have := hn3.hg; omega
  replace hB := hB.go hn3.below
  have hr4 : Rw g2 w1 ((AV a).toArray) 26 := hn3.row
  refine rw_new 4 ((AV d).toArray) 26 (fun _ => by kernel_rfl) (fun _ => by kernel_rfl) ?_
  intro w5 g6 hn7
  have hlg2g6 : g2 < g6 := by have := hr4.lt; have := hn7.hg; omega
  have hzg6 : w.heap.size ≤ g6 := by have := hB.size; have := hn7.hg; omega
  replace hB := hB.go hn7.below
  replace hr4 := hr4.go hn7.below
  have hr8 : Rw g6 w5 ((AV d).toArray) 26 := hn7.row
  refine rp 6 (.bool false) ?_
  refine rw_nil ?_
  refine nw_then ?_
  refine cw_seq ?_
  refine cw_draw (fun v => Rw g2 v (AV a).toArray 26 ∧ Rw g6 v (AV d).toArray 26) (by kernel_rfl) (⟨hr4, hr8⟩) ?_
  replace hB := hB.go (Below.refl _ _).drew
  replace hr4 := hr4.go (Below.refl _ _).drew
  replace hr8 := hr8.go (Below.refl _ _).drew
  refine dw_ready [0] (by kernel_rfl) (by simp) ?_
  refine ar_call 0 7 9 #[] rfl (fun _ => by kernel_rfl) (fun _ => by kernel_rfl) (R := RVl w5.drew (.bool true)) (walive w5.drew) (fun u w' h9 => ⟨hr4.go h9.2, hr8.go h9.2⟩) ?_ ar_nil
  rintro _ w9 ⟨rfl, hb10⟩
  replace hB := hB.go hb10
  replace hr4 := hr4.go hb10
  replace hr8 := hr8.go hb10
  refine dt 1 8 (.bool true) (fun v hv _ => by kernel_rfl) ⟨hr4, hr8⟩ ?_
  refine dt 2 9 (.agg ((AV a).toArray)) (fun v hv _ => ol_row 26 _ _ _ _ _ _ rfl (by kernel_rfl) hv.1 Try.underlying26 rfl (infoA oka)) ⟨hr4, hr8⟩ ?_
  refine dt 4 11 (.agg ((AV d).toArray)) (fun v hv _ => ol_row 26 _ _ _ _ _ _ rfl (by kernel_rfl) hv.2 Try.underlying26 rfl (infoA okd)) ⟨hr4, hr8⟩ ?_
  refine dt 7 14 (.agg ((AV a).toArray)) (fun v hv _ => ol_row 26 _ _ _ _ _ _ rfl (by kernel_rfl) hv.1 Try.underlying26 rfl (infoA oka)) ⟨hr4, hr8⟩ ?_
  refine dt 8 15 (.agg ((AV d).toArray)) (fun v hv _ => ol_row 26 _ _ _ _ _ _ rfl (by kernel_rfl) hv.2 Try.underlying26 rfl (infoA okd)) ⟨hr4, hr8⟩ ?_
  refine dt 9 16 (.bool (eqP a d)) (fun v hv => (fun _ => ol_eqlA rfl (by kernel_rfl) (by kernel_rfl) oka okd)) ⟨hr4, hr8⟩ ?_
  refine dw_ready [3] (by kernel_rfl) (by simp) ?_
  refine ar_call 3 10 11 #[.agg ((AV a).toArray)] rfl (fun _ => by kernel_rfl) (fun _ => by kernel_rfl) (R := RSl w9 (enA a)) (wenc a oka w9) (fun u w' h9 => ⟨hr4.go h9.2, hr8.go h9.2⟩) ?_ ar_nil
  rintro _ w14 ⟨⟨a11, n12, c13, rfl, ha15⟩, hb16⟩
  replace hB := hB.go hb16
  replace hr4 := hr4.go hb16
  replace hr8 := hr8.go hb16
  refine dw_ready [5] (by kernel_rfl) (by simp) ?_
  refine ar_call 5 12 11 #[.agg ((AV d).toArray)] rfl (fun _ => by kernel_rfl) (fun _ => by kernel_rfl) (R := RSl w14 (enA d)) (wenc d okd w14) (fun u w' h9 => ⟨hr4.go h9.2, hr8.go h9.2⟩) ?_ ar_nil
  rintro _ w20 ⟨⟨a17, n18, c19, rfl, ha21⟩, hb22⟩
  replace hB := hB.go hb22
  replace hr4 := hr4.go hb22
  replace hr8 := hr8.go hb22
  replace ha15 := ha15.go hb22
  refine dw_ready [6] (by kernel_rfl) (by simp) ?_
  refine ar_call 6 13 10 #[.slice a11 n12 c13, .slice a17 n18 c19] rfl (fun _ => by kernel_rfl) (fun _ => by kernel_rfl) (R := RVl w20 (.bool (decide (enA a = enA d)))) (wsame ha15 ha21) (fun u w' h9 => ⟨hr4.go h9.2, hr8.go h9.2⟩) ?_ ar_nil
  rintro _ w23 ⟨rfl, hb24⟩
  replace hB := hB.go hb24
  replace hr4 := hr4.go hb24
  replace hr8 := hr8.go hb24
  replace ha15 := ha15.go hb24
  replace ha21 := ha21.go hb24
  refine dt 10 17 (.bool true) (fun v hv => (fun _ => ol_eqb 4 _ _ _ (decide (enA a = enA d)) (eqP a d) rfl (by kernel_rfl) (by kernel_rfl) (heq) Try.underlying4)) ⟨hr4, hr8⟩ ?_
  refine dt 11 18 (.bool true) (fun v hv _ => by kernel_rfl) ⟨hr4, hr8⟩ ?_
  refine dt 12 19 (.bool true) (fun v hv _ => by kernel_rfl) ⟨hr4, hr8⟩ ?_
  refine dt 13 20 (.int .u64 ((m : Nat) : Int)) (fun v hv _ => by kernel_rfl) ⟨hr4, hr8⟩ ?_
  refine dt 17 24 (.int .u64 ((m : Nat) : Int)) (fun v hv _ => by kernel_rfl) ⟨hr4, hr8⟩ ?_
  refine dt 18 25 (.bool (((m : Nat) : Int) == (0 : Int))) (fun v hv _ => by kernel_rfl) ⟨hr4, hr8⟩ ?_
  refine dw_ready [14] (by kernel_rfl) (by simp) ?_
  refine ar_call 14 21 19 #[.int .u64 ((m : Nat) : Int)] rfl (fun _ => by kernel_rfl) (fun _ => by kernel_rfl) (R := RSl w23 (be m)) (wvalue m hm w23) (fun u w' h9 => ⟨hr4.go h9.2, hr8.go h9.2⟩) ?_ ar_nil
  rintro _ w28 ⟨⟨a25, n26, c27, rfl, ha29⟩, hb30⟩
  replace hB := hB.go hb30
  replace hr4 := hr4.go hb30
  replace hr8 := hr8.go hb30
  replace ha15 := ha15.go hb30
  replace ha21 := ha21.go hb30
  have hz0 : (((n26 : Int) == (0 : Int)) == (((m : Nat) : Int) == (0 : Int))) = true := by
    have hl := ha29.l
    by_cases h0 : m = 0
    · subst h0; rw [be_zero] at hl; rw [← hl]; rfl
    · have := be_ne (n := m) (by omega); have hp : 0 < (be m).length := List.length_pos_iff.2 this; rw [beq_eq_false_iff_ne.2 (show (n26 : Int) ≠ 0 by omega), beq_eq_false_iff_ne.2 (show ((m : Nat) : Int) ≠ 0 by omega)]; rfl
  refine dt 15 22 (.int .i64 n26) (fun v hv _ => by kernel_rfl) ⟨hr4, hr8⟩ ?_
  refine dt 16 23 (.bool ((n26 : Int) == (0 : Int))) (fun v hv _ => by kernel_rfl) ⟨hr4, hr8⟩ ?_
  refine dt 19 26 (.bool true) (fun v hv => (fun _ => ol_eqb 4 _ _ _ ((n26 : Int) == (0 : Int)) (((m : Nat) : Int) == (0 : Int)) rfl (by kernel_rfl) (by kernel_rfl) (hz0) Try.underlying4)) ⟨hr4, hr8⟩ ?_
  refine dt 20 27 (.bool true) (fun v hv _ => by kernel_rfl) ⟨hr4, hr8⟩ ?_
  refine dt 21 6 (.bool true) (fun v hv _ => by kernel_rfl) ⟨hr4, hr8⟩ ?_
  refine dw_done (by kernel_rfl) ?_
  refine nw_then ?_
  refine cw_ret ?_
  refine nw_ret_body (.bool true) (fun _ => by kernel_rfl) ?_
  exact ⟨rfl, hB⟩
theorem acunlike_any (a d : PA) (k : Int) (oka : okA a) (okd : okA d) (hk : 0 ≤ k ∧ k < 18446744073709551616) (w : World) : Calls Try.prog 8 #[.agg (AV a).toArray, .agg (AV d).toArray, .int .u64 k] w (Law12 w) := by
  obtain ⟨m, rfl⟩ := Int.eq_ofNat_of_zero_le hk.1
  exact unlike_nat a d m oka okd (by unfold W64; omega) w
end Go.Proofs.Ytmaajddofmahpaa

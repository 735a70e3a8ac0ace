/- All keys and values of any tree, one by one. -/
import Derived.Test.YtdkpilgelgjieaaGreatG29
import Derived.Test.YtdkpilgelgjieaaGreatG01
import Derived.Test.YtdkpilgelgjieaaGreatG19
import Derived.Test.YtdkpilgelgjieaaGreatG26
namespace Go.Proofs.YtdkpilgelgjieaaGreat
open Go.RowKit
open Tr
set_option linter.unusedVariables false
set_option maxRecDepth 100000
def RB (U : Nat → Prop) (J : PList → World → Prop) (Jx : World → Prop) (w : World) (L : PList) : Value → World → Prop := fun u w' => ∃ b, u = .bool b ∧ (b = true → J L w' ∧ KpU U w.heap.size w w') ∧ (b = false → Jx w')
theorem RE.rb {U : Nat → Prop} {J : PList → World → Prop} {Jx : World → Prop} {w : World} {L : PList} {u : Value} {w' : World} (h : RE U J Jx w L u w') : RB U J Jx w L u w' := by
  rcases h with ⟨rfl, h1, h2⟩ | ⟨rfl, h⟩
  · exact ⟨true, rfl, fun _ => ⟨h1, h2⟩, fun e => by cases e⟩
  · exact ⟨false, rfl, (fun e => by cases e), fun _ => h⟩
theorem clb_any {l B0 : Nat} {Z : PList} {U : Nat → Prop} {J : PList → World → Prop} {Jx : World → Prop} (V : Vis l B0 Z U J Jx) {K K' : Nat → Prop} {w : World} {a a' : Option Addr} {n c n' c' : Nat} {p x : List Int} (hp : Sk K w a n c p) (hx : Sk K' w a' n' c' x) (hn : n ≤ 1000) (hn' : n' ≤ 1000) {gY : Nat} (hY : Rw gY w #[.func (.yield l) #[] #[]] 56) {pre : PList} (hJ : J pre w) (hN : (pre ++ [((Ni.keyP p).1, x)]) <+: Z) (hB0 : B0 ≤ w.heap.size) :
    Calls Tryz.prog 44 #[.slice a n c, .slice a' n' c', .pointer (some ⟨gY, 0, none⟩)] w fun e w' => ∃ u, e = .returned u ∧ RB U J Jx w (pre ++ [((Ni.keyP p).1, x)]) u w' :=
  (cl_any V hp hx hn hn' hY hJ hN hB0).mono (fun e w' ⟨u, e1, e2⟩ => ⟨u, e1, e2.rb⟩)
def EC (l B0 : Nat) (Z : PList) (U : Nat → Prop) (J : PList → World → Prop) (Jx : World → Prop) (t : Tr) : Prop := ∀ {K K' : Nat → Prop} {w : World} {v : Value} {a : Option Addr} {n c B gY : Nat} {q : List Int} {pre : PList}, Tr.Ok B t → n + B ≤ 64 → TA K w t v → (∀ b, K b → ¬ U b) → Sk K' w a n c q → (∀ b, K' b → ¬ U b) → Rw gY w #[.func (.yield l) #[] #[]] 56 → ¬ U gY → J pre w → (pre ++ entsF q t) <+: Z → B0 ≤ w.heap.size →
  MC "pergola/trie.each" v #[.slice a n c, .func (.func 44) #[] #[.pointer (some ⟨gY, 0, none⟩)]] w (RB U J Jx w (pre ++ entsF q t))
theorem iv_each_l (x : Value) : Iv "pergola/trie.each" (.iface 110 x) 146 x := iv_of fun w vs => by kernel_rfl
theorem iv_each_e (x : Value) : Iv "pergola/trie.each" (.iface 189 x) 165 x := iv_of fun w vs => by kernel_rfl
theorem iv_each_b (x : Value) : Iv "pergola/trie.each" (.iface 184 x) 158 x := iv_of fun w vs => by kernel_rfl
theorem ol_nilm {K : Nat → Prop} {w0 w : World} {t : Tr} {v : Value} (h : TA K w0 t v) (hne : t ≠ no) {ρ : Operand → Value} {o : Oper} (i : Nat) (ho : o.op = .nilCheck (.tmp i)) (hx : ρ (.tmp i) = .func (.method "pergola/trie.each") #[v] #[]) : (execOp ρ o).run Tryz.prog w = .ok (.value (.func (.method "pergola/trie.each") #[v] #[])) w := by
  unfold execOp
  rw [ho]
  simp only [hx]
  cases t with
  | no => exact absurd rfl hne
  | leaf p x => obtain ⟨_, _, _, _, _, _, rfl, _⟩ := h; kernel_rfl
  | ext p t => obtain ⟨_, _, _, _, rfl, _⟩ := h; kernel_rfl
  | br k x => obtain ⟨_, _, _, _, rfl, _⟩ := h; kernel_rfl
/-- The kids' keys and values, the first so many. -/
def flK (q : List Int) (k : Nat → Tr) (j : Nat) : PList := (List.range j).flatMap fun i => if (k i).isNo then [] else entsF (q ++ [((i : Nat) : Int)]) (k i)
theorem flK_no {q : List Int} {k : Nat → Tr} {j : Nat} (h : k j = no) : flK q k (j + 1) = flK q k j := by simp [flK, List.range_succ, List.flatMap_append, h, isNo]
theorem flK_yes {q : List Int} {k : Nat → Tr} {j : Nat} (h : k j ≠ no) : flK q k (j + 1) = flK q k j ++ entsF (q ++ [((j : Nat) : Int)]) (k j) := by
  have : (k j).isNo = false := by cases hk : k j <;> simp_all [isNo]
  simp [flK, List.range_succ, List.flatMap_append, this]
theorem flK_le (q : List Int) (k : Nat → Tr) {j m : Nat} (h : j ≤ m) : flK q k j <+: flK q k m := by
  induction m with
  | zero =>
    obtain rfl : j = 0 := by omega
    exact List.prefix_rfl
  | succ m ih =>
    by_cases e : j = m + 1
    · rw [e]; exact List.prefix_rfl
    · refine (ih (by omega)).trans ?_
      simp only [flK, List.range_succ, List.flatMap_append]
      exact List.prefix_append _ _
theorem TK.kp {U K : Nat → Prop} {A B : World} {k : Nat → Tr} {vs : Nat → Value} (h : TK K A k vs) (hk : KpU U A.heap.size A B) (hK : ∀ b, K b → ¬ U b) : TK K B k vs := fun i hi => (h i hi).kp hk (Nat.le_refl _) hK
set_option maxHeartbeats 2000000 in
theorem leach_any {l B0 : Nat} {Z : PList} {U : Nat → Prop} {J : PList → World → Prop} {Jx : World → Prop} (V : Vis l B0 Z U J Jx) {K K' : Nat → Prop} {w : World} {a a' : Option Addr} {n c n' c' : Nat} {p x : List Int} (hp : Sk K w a n c p) (hx : Sk K w a' n' c' x) (hn2 : n' ≤ 256) {aq : Option Addr} {nq cq : Nat} {q : List Int} (hq : Sk K' w aq nq cq q) {gY : Nat} (hY : Rw gY w #[.func (.yield l) #[] #[]] 56) {pre : PList} (hJ : J pre w) (hN : (pre ++ [((Ni.keyP (q ++ p)).1, x)]) <+: Z) (hB0 : B0 ≤ w.heap.size) (h64 : nq + n ≤ 64) :
    Calls Tryz.prog 146 #[.agg #[.slice a n c, .slice a' n' c'], .slice aq nq cq, .func (.func 44) #[] #[.pointer (some ⟨gY, 0, none⟩)]] w fun e w' => ∃ u, e = .returned u ∧ RB U J Jx w (pre ++ entsF q (leaf p x)) u w' := by
  have hB := Bl.refl w
  have lp := hp.len
  have lq := hq.len
  refine cw_enter Tryz.func146 rfl 16 rfl ?_
  show CW _ _ _ _ _ _ _ [(0, .agg #[.slice a n c, .slice a' n' c']), (1, .slice aq nq cq), (2, .func (.func 44) #[] #[.pointer (some ⟨gY, 0, none⟩)])] _
  refine cw_seq ?_
  refine cw_region ?_
  refine rw_new 3 (#[.slice a n c, .slice a' n' c']) 110 (fun _ => by kernel_rfl) (fun _ => by kernel_rfl) ?_
  intro w1 g2 hn3
  replace hB := hB.go hn3.below
  replace hp := hp.go hn3.below
  replace hx := hx.go hn3.below
  replace hq := hq.go hn3.below
  replace hY := hY.go hn3.below
  replace hJ := V.go hJ hn3.below
  have hr4 : Rw g2 w1 (#[.slice a n c, .slice a' n' c']) 110 := hn3.row
  refine rp 6 (.bool false) ?_
  refine rw_nil ?_
  refine nw_then ?_
  refine cw_seq ?_
  refine cw_draw (fun _ => True) (by kernel_rfl) (trivial) ?_
  replace hB := hB.drew
  replace hp := hp.drew
  replace hx := hx.drew
  replace hq := hq.drew
  replace hY := hY.drew
  replace hJ := V.go hJ (Below.refl _ _).drew
  replace hr4 := hr4.drew
  refine dt 0 7 (.func (.func 44) #[] #[.pointer (some ⟨gY, 0, none⟩)]) (fun v hv _ => by kernel_rfl) trivial ?_
  refine dt 1 8 (.slice aq nq cq) (fun v hv _ => by kernel_rfl) trivial ?_
  refine dt 2 9 (.pointer (some ⟨g2, 0, none⟩)) (fun v hv _ => by kernel_rfl) trivial ?_
  refine dt 6 13 (.pointer (some ⟨g2, 1, none⟩)) (fun v hv _ => by kernel_rfl) trivial ?_
  refine dw_ready [3, 7] (by kernel_rfl) (by simp) ?_
  refine ar_v 3 10 (.slice a n c) rfl (fun _ => by kernel_rfl) (fun _ => ol_cell 32 _ ⟨g2, 0, none⟩ _ _ rfl (by kernel_rfl) (by rw [cell_of_row _ _ _ _ _ _ hr4]; rfl) Tryz.underlying32 rfl) trivial ?_ ?_
  · skip
    refine dw_ready [4, 7] (by kernel_rfl) (by simp) ?_
    refine ar_newS 4 11 #[.slice aq nq cq, .slice a n c] 32 2 rfl (fun _ => by kernel_rfl) (fun _ => by kernel_rfl) (fun w' g h => trivial) ?_ ?_
    · skip
      intro w5 g6 hn7
      replace hB := hB.go hn7.below
      replace hp := hp.go hn7.below
      replace hx := hx.go hn7.below
      replace hq := hq.go hn7.below
      replace hY := hY.go hn7.below
      replace hJ := V.go hJ hn7.below
      replace hr4 := hr4.go hn7.below
      have hL : Rw g6 w5 #[.slice aq nq cq, .slice a n c] 32 := hn7.row
      refine dw_ready [5, 7] (by kernel_rfl) (by simp) ?_
      refine ar_call 5 12 152 #[.slice (some ⟨g6, 0, none⟩) 2 2] rfl (fun _ => by kernel_rfl) (fun _ => by kernel_rfl) (R := fun u w' => ∃ a2 n2 c2, u = .slice a2 n2 c2 ∧ Sk (fun b => (w5).heap.size ≤ b) w' a2 n2 c2 (q ++ p) ∧ Bl (w5) w') (concat_any hq hp hL (by omega) (by omega)) (fun u w' h => trivial) ?_ ?_
      · skip
        rintro _ u8 ⟨a3, n3, c3, rfl, hs3, hb9⟩
        have hsB := hB.size
        replace hB := hB.go hb9
        replace hp := hp.go hb9
        replace hx := hx.go hb9
        replace hq := hq.go hb9
        replace hY := hY.go hb9
        replace hJ := V.go hJ hb9
        replace hr4 := hr4.go hb9
        replace hL := hL.go hb9
        refine dw_ready [7] (by kernel_rfl) (by simp) ?_
        refine ar_v 7 14 (.slice a' n' c') rfl (fun _ => by kernel_rfl) (fun _ => ol_cell 32 _ ⟨g2, 1, none⟩ _ _ rfl (by kernel_rfl) (by rw [cell_of_row _ _ _ _ _ _ hr4]; rfl) Tryz.underlying32 rfl) trivial ?_ ar_nil
        refine dw_ready [8] (by kernel_rfl) (by simp) ?_
        have l3 := hs3.len
        rw [List.length_append] at l3
        refine ar_call 8 15 44 #[.slice a3 n3 c3, .slice a' n' c', .pointer (some ⟨gY, 0, none⟩)] rfl (fun _ => by kernel_rfl) (fun _ => by kernel_rfl) (R := RB U J Jx (u8) (pre ++ [((Ni.keyP (q ++ p)).1, x)])) (clb_any V hs3 hx (by omega) (by omega) hY hJ hN (Nat.le_trans hB0 hB.size)) (fun u w' h => trivial) ?_ ar_nil
        rintro _ u8 ⟨b8, rfl, hR8, hX8⟩
        have hBk := hB
        refine dt 9 6 (.bool b8) (fun v hv _ => by kernel_rfl) trivial ?_
        refine dw_done (by kernel_rfl) ?_
        refine nw_then ?_
        refine cw_ret ?_
        exact nw_ret_body (.bool b8) (fun _ => by kernel_rfl) ⟨_, rfl, b8, rfl, fun e => ⟨(hR8 e).1, (KpU.of_below _ hBk).trans (hR8 e).2 hBk.size⟩, hX8⟩
      refine ar_v 7 14 (.slice a' n' c') rfl (fun _ => by kernel_rfl) (fun _ => ol_cell 32 _ ⟨g2, 1, none⟩ _ _ rfl (by kernel_rfl) (by rw [cell_of_row _ _ _ _ _ _ hr4]; rfl) Tryz.underlying32 rfl) trivial ?_ ar_nil
      refine dw_ready [5] (by kernel_rfl) (by simp) ?_
      refine ar_call 5 12 152 #[.slice (some ⟨g6, 0, none⟩) 2 2] rfl (fun _ => by kernel_rfl) (fun _ => by kernel_rfl) (R := fun u w' => ∃ a2 n2 c2, u = .slice a2 n2 c2 ∧ Sk (fun b => (w5).heap.size ≤ b) w' a2 n2 c2 (q ++ p) ∧ Bl (w5) w') (concat_any hq hp hL (by omega) (by omega)) (fun u w' h => trivial) ?_ ar_nil
      rintro _ u10 ⟨a3, n3, c3, rfl, hs3, hb11⟩
      have hsB := hB.size
      replace hB := hB.go hb11
      replace hp := hp.go hb11
      replace hx := hx.go hb11
      replace hq := hq.go hb11
      replace hY := hY.go hb11
      replace hJ := V.go hJ hb11
      replace hr4 := hr4.go hb11
      replace hL := hL.go hb11
      refine dw_ready [8] (by kernel_rfl) (by simp) ?_
      have l3 := hs3.len
      rw [List.length_append] at l3
      refine ar_call 8 15 44 #[.slice a3 n3 c3, .slice a' n' c', .pointer (some ⟨gY, 0, none⟩)] rfl (fun _ => by kernel_rfl) (fun _ => by kernel_rfl) (R := RB U J Jx (u10) (pre ++ [((Ni.keyP (q ++ p)).1, x)])) (clb_any V hs3 hx (by omega) (by omega) hY hJ hN (Nat.le_trans hB0 hB.size)) (fun u w' h => trivial) ?_ ar_nil
      rintro _ u8 ⟨b8, rfl, hR8, hX8⟩
      have hBk := hB
      refine dt 9 6 (.bool b8) (fun v hv _ => by kernel_rfl) trivial ?_
      refine dw_done (by kernel_rfl) ?_
      refine nw_then ?_
      refine cw_ret ?_
      exact nw_ret_body (.bool b8) (fun _ => by kernel_rfl) ⟨_, rfl, b8, rfl, fun e => ⟨(hR8 e).1, (KpU.of_below _ hBk).trans (hR8 e).2 hBk.size⟩, hX8⟩
    refine ar_v 7 14 (.slice a' n' c') rfl (fun _ => by kernel_rfl) (fun _ => ol_cell 32 _ ⟨g2, 1, none⟩ _ _ rfl (by kernel_rfl) (by rw [cell_of_row _ _ _ _ _ _ hr4]; rfl) Tryz.underlying32 rfl) trivial ?_ ar_nil
    refine dw_ready [4] (by kernel_rfl) (by simp) ?_
    refine ar_newS 4 11 #[.slice aq nq cq, .slice a n c] 32 2 rfl (fun _ => by kernel_rfl) (fun _ => by kernel_rfl) (fun w' g h => trivial) ?_ ar_nil
    intro w12 g13 hn14
    replace hB := hB.go hn14.below
    replace hp := hp.go hn14.below
    replace hx := hx.go hn14.below
    replace hq := hq.go hn14.below
    replace hY := hY.go hn14.below
    replace hJ := V.go hJ hn14.below
    replace hr4 := hr4.go hn14.below
    have hL : Rw g13 w12 #[.slice aq nq cq, .slice a n c] 32 := hn14.row
    refine dw_ready [5] (by kernel_rfl) (by simp) ?_
    refine ar_call 5 12 152 #[.slice (some ⟨g13, 0, none⟩) 2 2] rfl (fun _ => by kernel_rfl) (fun _ => by kernel_rfl) (R := fun u w' => ∃ a2 n2 c2, u = .slice a2 n2 c2 ∧ Sk (fun b => (w12).heap.size ≤ b) w' a2 n2 c2 (q ++ p) ∧ Bl (w12) w') (concat_any hq hp hL (by omega) (by omega)) (fun u w' h => trivial) ?_ ar_nil
    rintro _ u15 ⟨a3, n3, c3, rfl, hs3, hb16⟩
    have hsB := hB.size
    replace hB := hB.go hb16
    replace hp := hp.go hb16
    replace hx := hx.go hb16
    replace hq := hq.go hb16
    replace hY := hY.go hb16
    replace hJ := V.go hJ hb16
    replace hr4 := hr4.go hb16
    replace hL := hL.go hb16
    refine dw_ready [8] (by kernel_rfl) (by simp) ?_
    have l3 := hs3.len
    rw [List.length_append] at l3
    refine ar_call 8 15 44 #[.slice a3 n3 c3, .slice a' n' c', .pointer (some ⟨gY, 0, none⟩)] rfl (fun _ => by kernel_rfl) (fun _ => by kernel_rfl) (R := RB U J Jx (u15) (pre ++ [((Ni.keyP (q ++ p)).1, x)])) (clb_any V hs3 hx (by omega) (by omega) hY hJ hN (Nat.le_trans hB0 hB.size)) (fun u w' h => trivial) ?_ ar_nil
    rintro _ u8 ⟨b8, rfl, hR8, hX8⟩
    have hBk := hB
    refine dt 9 6 (.bool b8) (fun v hv _ => by kernel_rfl) trivial ?_
    refine dw_done (by kernel_rfl) ?_
    refine nw_then ?_
    refine cw_ret ?_
    exact nw_ret_body (.bool b8) (fun _ => by kernel_rfl) ⟨_, rfl, b8, rfl, fun e => ⟨(hR8 e).1, (KpU.of_below _ hBk).trans (hR8 e).2 hBk.size⟩, hX8⟩
  refine ar_v 7 14 (.slice a' n' c') rfl (fun _ => by kernel_rfl) (fun _ => ol_cell 32 _ ⟨g2, 1, none⟩ _ _ rfl (by kernel_rfl) (by rw [cell_of_row _ _ _ _ _ _ hr4]; rfl) Tryz.underlying32 rfl) trivial ?_ ar_nil
  refine dw_ready [3] (by kernel_rfl) (by simp) ?_
  refine ar_v 3 10 (.slice a n c) rfl (fun _ => by kernel_rfl) (fun _ => ol_cell 32 _ ⟨g2, 0, none⟩ _ _ rfl (by kernel_rfl) (by rw [cell_of_row _ _ _ _ _ _ hr4]; rfl) Tryz.underlying32 rfl) trivial ?_ ar_nil
  refine dw_ready [4] (by kernel_rfl) (by simp) ?_
  refine ar_newS 4 11 #[.slice aq nq cq, .slice a n c] 32 2 rfl (fun _ => by kernel_rfl) (fun _ => by kernel_rfl) (fun w' g h => trivial) ?_ ar_nil
  intro w17 g18 hn19
  replace hB := hB.go hn19.below
  replace hp := hp.go hn19.below
  replace hx := hx.go hn19.below
  replace hq := hq.go hn19.below
  replace hY := hY.go hn19.below
  replace hJ := V.go hJ hn19.below
  replace hr4 := hr4.go hn19.below
  have hL : Rw g18 w17 #[.slice aq nq cq, .slice a n c] 32 := hn19.row
  refine dw_ready [5] (by kernel_rfl) (by simp) ?_
  refine ar_call 5 12 152 #[.slice (some ⟨g18, 0, none⟩) 2 2] rfl (fun _ => by kernel_rfl) (fun _ => by kernel_rfl) (R := fun u w' => ∃ a2 n2 c2, u = .slice a2 n2 c2 ∧ Sk (fun b => (w17).heap.size ≤ b) w' a2 n2 c2 (q ++ p) ∧ Bl (w17) w') (concat_any hq hp hL (by omega) (by omega)) (fun u w' h => trivial) ?_ ar_nil
  rintro _ u20 ⟨a3, n3, c3, rfl, hs3, hb21⟩
  have hsB := hB.size
  replace hB := hB.go hb21
  replace hp := hp.go hb21
  replace hx := hx.go hb21
  replace hq := hq.go hb21
  replace hY := hY.go hb21
  replace hJ := V.go hJ hb21
  replace hr4 := hr4.go hb21
  replace hL := hL.go hb21
  refine dw_ready [8] (by kernel_rfl) (by simp) ?_
  have l3 := hs3.len
  rw [List.length_append] at l3
  refine ar_call 8 15 44 #[.slice a3 n3 c3, .slice a' n' c', .pointer (some ⟨gY, 0, none⟩)] rfl (fun _ => by kernel_rfl) (fun _ => by kernel_rfl) (R := RB U J Jx (u20) (pre ++ [((Ni.keyP (q ++ p)).1, x)])) (clb_any V hs3 hx (by omega) (by omega) hY hJ hN (Nat.le_trans hB0 hB.size)) (fun u w' h => trivial) ?_ ar_nil
  rintro _ u8 ⟨b8, rfl, hR8, hX8⟩
  have hBk := hB
  refine dt 9 6 (.bool b8) (fun v hv _ => by kernel_rfl) trivial ?_
  refine dw_done (by kernel_rfl) ?_
  refine nw_then ?_
  refine cw_ret ?_
  exact nw_ret_body (.bool b8) (fun _ => by kernel_rfl) ⟨_, rfl, b8, rfl, fun e => ⟨(hR8 e).1, (KpU.of_below _ hBk).trans (hR8 e).2 hBk.size⟩, hX8⟩
set_option maxHeartbeats 2000000 in
theorem eeach_any {l B0 : Nat} {Z : PList} {U : Nat → Prop} {J : PList → World → Prop} {Jx : World → Prop} (V : Vis l B0 Z U J Jx) {K K' : Nat → Prop} {w : World} {a : Option Addr} {n c B : Nat} {p : List Int} {t : Tr} {Tu : TypeId} {xu : Value} (hp : Sk K w a n c p) (ht : TA K w t (.iface Tu xu)) (hKU : ∀ b, K b → ¬ U b) (hF : EC l B0 Z U J Jx t) (hOc : Tr.Ok B t) {aq : Option Addr} {nq cq : Nat} {q : List Int} (hq : Sk K' w aq nq cq q) {gY : Nat} (hY : Rw gY w #[.func (.yield l) #[] #[]] 56) {pre : PList} (hJ : J pre w) (hN : (pre ++ entsF q (ext p t)) <+: Z) (hB0 : B0 ≤ w.heap.size) (hUY : ¬ U gY) (h64 : nq + n + B ≤ 64) :
    Calls Tryz.prog 165 #[.agg #[.slice a n c, .iface Tu xu], .slice aq nq cq, .func (.func 44) #[] #[.pointer (some ⟨gY, 0, none⟩)]] w fun e w' => ∃ u, e = .returned u ∧ RB U J Jx w (pre ++ entsF q (ext p t)) u w' := by
  have hB := Bl.refl w
  have lp := hp.len
  have lq := hq.len
  refine cw_enter Tryz.func165 rfl 18 rfl ?_
  show CW _ _ _ _ _ _ _ [(0, .agg #[.slice a n c, .iface Tu xu]), (1, .slice aq nq cq), (2, .func (.func 44) #[] #[.pointer (some ⟨gY, 0, none⟩)])] _
  refine cw_seq ?_
  refine cw_region ?_
  refine rw_new 3 (#[.slice a n c, .iface Tu xu]) 189 (fun _ => by kernel_rfl) (fun _ => by kernel_rfl) ?_
  intro w1 g2 hn3
  replace hB := hB.go hn3.below
  replace hp := hp.go hn3.below
  replace hq := hq.go hn3.below
  replace hY := hY.go hn3.below
  replace ht := ht.go hn3.below
  replace hJ := V.go hJ hn3.below
  have hr4 : Rw g2 w1 (#[.slice a n c, .iface Tu xu]) 189 := hn3.row
  refine rp 6 (.bool false) ?_
  refine rw_nil ?_
  refine nw_then ?_
  refine cw_seq ?_
  refine cw_draw (fun _ => True) (by kernel_rfl) (trivial) ?_
  replace hB := hB.drew
  replace hp := hp.drew
  replace hq := hq.drew
  replace hY := hY.drew
  replace ht := ht.drew
  replace hJ := V.go hJ (Below.refl _ _).drew
  replace hr4 := hr4.drew
  refine dt 0 7 (.pointer (some ⟨g2, 1, none⟩)) (fun v hv _ => by kernel_rfl) trivial ?_
  refine dt 2 9 (.slice aq nq cq) (fun v hv _ => by kernel_rfl) trivial ?_
  refine dt 3 10 (.pointer (some ⟨g2, 0, none⟩)) (fun v hv _ => by kernel_rfl) trivial ?_
  refine dt 7 14 (.func (.func 44) #[] #[.pointer (some ⟨gY, 0, none⟩)]) (fun v hv _ => by kernel_rfl) trivial ?_
  refine dw_ready [1, 4] (by kernel_rfl) (by simp) ?_
  refine ar_v 1 8 (.iface Tu xu) rfl (fun _ => by kernel_rfl) (fun _ => ol_cell 70 _ ⟨g2, 1, none⟩ _ _ rfl (by kernel_rfl) (by rw [cell_of_row _ _ _ _ _ _ hr4]; rfl) Tryz.underlying70 rfl) trivial ?_ ?_
  · skip
    refine dt 8 15 (.iface Tu xu) (fun v hv => (fun _ => by kernel_rfl)) trivial ?_
    refine dt 9 16 (.iface Tu xu) (fun v hv _ => by kernel_rfl) trivial ?_
    refine dw_ready [4] (by kernel_rfl) (by simp) ?_
    refine ar_v 4 11 (.slice a n c) rfl (fun _ => by kernel_rfl) (fun _ => ol_cell 32 _ ⟨g2, 0, none⟩ _ _ rfl (by kernel_rfl) (by rw [cell_of_row _ _ _ _ _ _ hr4]; rfl) Tryz.underlying32 rfl) trivial ?_ ar_nil
    refine dw_ready [5] (by kernel_rfl) (by simp) ?_
    refine ar_newS 5 12 #[.slice aq nq cq, .slice a n c] 32 2 rfl (fun _ => by kernel_rfl) (fun _ => by kernel_rfl) (fun w' g h => trivial) ?_ ar_nil
    intro w5 g6 hn7
    replace hB := hB.go hn7.below
    replace hp := hp.go hn7.below
    replace hq := hq.go hn7.below
    replace hY := hY.go hn7.below
    replace ht := ht.go hn7.below
    replace hJ := V.go hJ hn7.below
    replace hr4 := hr4.go hn7.below
    have hL : Rw g6 w5 #[.slice aq nq cq, .slice a n c] 32 := hn7.row
    refine dw_ready [6] (by kernel_rfl) (by simp) ?_
    refine ar_call 6 13 152 #[.slice (some ⟨g6, 0, none⟩) 2 2] rfl (fun _ => by kernel_rfl) (fun _ => by kernel_rfl) (R := fun u w' => ∃ a2 n2 c2, u = .slice a2 n2 c2 ∧ Sk (fun b => (w5).heap.size ≤ b) w' a2 n2 c2 (q ++ p) ∧ Bl (w5) w') (concat_any hq hp hL (by omega) (by omega)) (fun u w' h => trivial) ?_ ar_nil
    rintro _ u8 ⟨a3, n3, c3, rfl, hs3, hb9⟩
    have hsB := hB.size
    replace hB := hB.go hb9
    replace hp := hp.go hb9
    replace hq := hq.go hb9
    replace hY := hY.go hb9
    replace ht := ht.go hb9
    replace hJ := V.go hJ hb9
    replace hr4 := hr4.go hb9
    replace hL := hL.go hb9
    refine dw_ready [10] (by kernel_rfl) (by simp) ?_
    have l3 := hs3.len
    rw [List.length_append] at l3
    obtain ⟨T12, x13, f14, he15, hi10, hc11⟩ := (hF hOc (by omega) ht hKU hs3 (fun b hb hu => by have := V.lo b hu; have := hB.size; omega) hY hUY hJ hN (Nat.le_trans hB0 hB.size))
    refine ar_call 10 17 f14 (#[x13] ++ #[.slice a3 n3 c3, .func (.func 44) #[] #[.pointer (some ⟨gY, 0, none⟩)]]) rfl (fun _ => by kernel_rfl) (fun _ => hi10 _ _ _ _ _ _ _ rfl (by kernel_rfl) (by kernel_rfl)) (R := RB U J Jx (u8) (pre ++ entsF (q ++ p) t)) ?_ (fun u w' h => trivial) ?_ ar_nil
    · exact hc11
    rintro _ u8 ⟨b8, rfl, hR8, hX8⟩
    have hBk := hB
    refine dt 11 6 (.bool b8) (fun v hv _ => by kernel_rfl) trivial ?_
    refine dw_done (by kernel_rfl) ?_
    refine nw_then ?_
    refine cw_ret ?_
    exact nw_ret_body (.bool b8) (fun _ => by kernel_rfl) ⟨_, rfl, b8, rfl, fun e => ⟨(hR8 e).1, (KpU.of_below _ hBk).trans (hR8 e).2 hBk.size⟩, hX8⟩
  refine ar_v 4 11 (.slice a n c) rfl (fun _ => by kernel_rfl) (fun _ => ol_cell 32 _ ⟨g2, 0, none⟩ _ _ rfl (by kernel_rfl) (by rw [cell_of_row _ _ _ _ _ _ hr4]; rfl) Tryz.underlying32 rfl) trivial ?_ ar_nil
  refine dw_ready [1, 5] (by kernel_rfl) (by simp) ?_
  refine ar_v 1 8 (.iface Tu xu) rfl (fun _ => by kernel_rfl) (fun _ => ol_cell 70 _ ⟨g2, 1, none⟩ _ _ rfl (by kernel_rfl) (by rw [cell_of_row _ _ _ _ _ _ hr4]; rfl) Tryz.underlying70 rfl) trivial ?_ ?_
  · skip
    refine dt 8 15 (.iface Tu xu) (fun v hv => (fun _ => by kernel_rfl)) trivial ?_
    refine dt 9 16 (.iface Tu xu) (fun v hv _ => by kernel_rfl) trivial ?_
    refine dw_ready [5] (by kernel_rfl) (by simp) ?_
    refine ar_newS 5 12 #[.slice aq nq cq, .slice a n c] 32 2 rfl (fun _ => by kernel_rfl) (fun _ => by kernel_rfl) (fun w' g h => trivial) ?_ ar_nil
    intro w16 g17 hn18
    replace hB := hB.go hn18.below
    replace hp := hp.go hn18.below
    replace hq := hq.go hn18.below
    replace hY := hY.go hn18.below
    replace ht := ht.go hn18.below
    replace hJ := V.go hJ hn18.below
    replace hr4 := hr4.go hn18.below
    have hL : Rw g17 w16 #[.slice aq nq cq, .slice a n c] 32 := hn18.row
    refine dw_ready [6] (by kernel_rfl) (by simp) ?_
    refine ar_call 6 13 152 #[.slice (some ⟨g17, 0, none⟩) 2 2] rfl (fun _ => by kernel_rfl) (fun _ => by kernel_rfl) (R := fun u w' => ∃ a2 n2 c2, u = .slice a2 n2 c2 ∧ Sk (fun b => (w16).heap.size ≤ b) w' a2 n2 c2 (q ++ p) ∧ Bl (w16) w') (concat_any hq hp hL (by omega) (by omega)) (fun u w' h => trivial) ?_ ar_nil
    rintro _ u19 ⟨a3, n3, c3, rfl, hs3, hb20⟩
    have hsB := hB.size
    replace hB := hB.go hb20
    replace hp := hp.go hb20
    replace hq := hq.go hb20
    replace hY := hY.go hb20
    replace ht := ht.go hb20
    replace hJ := V.go hJ hb20
    replace hr4 := hr4.go hb20
    replace hL := hL.go hb20
    refine dw_ready [10] (by kernel_rfl) (by simp) ?_
    have l3 := hs3.len
    rw [List.length_append] at l3
    obtain ⟨T23, x24, f25, he26, hi21, hc22⟩ := (hF hOc (by omega) ht hKU hs3 (fun b hb hu => by have := V.lo b hu; have := hB.size; omega) hY hUY hJ hN (Nat.le_trans hB0 hB.size))
    refine ar_call 10 17 f25 (#[x24] ++ #[.slice a3 n3 c3, .func (.func 44) #[] #[.pointer (some ⟨gY, 0, none⟩)]]) rfl (fun _ => by kernel_rfl) (fun _ => hi21 _ _ _ _ _ _ _ rfl (by kernel_rfl) (by kernel_rfl)) (R := RB U J Jx (u19) (pre ++ entsF (q ++ p) t)) ?_ (fun u w' h => trivial) ?_ ar_nil
    · exact hc22
    rintro _ u8 ⟨b8, rfl, hR8, hX8⟩
    have hBk := hB
    refine dt 11 6 (.bool b8) (fun v hv _ => by kernel_rfl) trivial ?_
    refine dw_done (by kernel_rfl) ?_
    refine nw_then ?_
    refine cw_ret ?_
    exact nw_ret_body (.bool b8) (fun _ => by kernel_rfl) ⟨_, rfl, b8, rfl, fun e => ⟨(hR8 e).1, (KpU.of_below _ hBk).trans (hR8 e).2 hBk.size⟩, hX8⟩
  refine ar_newS 5 12 #[.slice aq nq cq, .slice a n c] 32 2 rfl (fun _ => by kernel_rfl) (fun _ => by kernel_rfl) (fun w' g h => trivial) ?_ ar_nil
  intro w27 g28 hn29
  replace hB := hB.go hn29.below
  replace hp := hp.go hn29.below
  replace hq := hq.go hn29.below
  replace hY := hY.go hn29.below
  replace ht := ht.go hn29.below
  replace hJ := V.go hJ hn29.below
  replace hr4 := hr4.go hn29.below
  have hL : Rw g28 w27 #[.slice aq nq cq, .slice a n c] 32 := hn29.row
  refine dw_ready [1, 6] (by kernel_rfl) (by simp) ?_
  refine ar_v 1 8 (.iface Tu xu) rfl (fun _ => by kernel_rfl) (fun _ => ol_cell 70 _ ⟨g2, 1, none⟩ _ _ rfl (by kernel_rfl) (by rw [cell_of_row _ _ _ _ _ _ hr4]; rfl) Tryz.underlying70 rfl) trivial ?_ ?_
  · skip
    refine dt 8 15 (.iface Tu xu) (fun v hv => (fun _ => by kernel_rfl)) trivial ?_
    refine dt 9 16 (.iface Tu xu) (fun v hv _ => by kernel_rfl) trivial ?_
    refine dw_ready [6] (by kernel_rfl) (by simp) ?_
    refine ar_call 6 13 152 #[.slice (some ⟨g28, 0, none⟩) 2 2] rfl (fun _ => by kernel_rfl) (fun _ => by kernel_rfl) (R := fun u w' => ∃ a2 n2 c2, u = .slice a2 n2 c2 ∧ Sk (fun b => (w27).heap.size ≤ b) w' a2 n2 c2 (q ++ p) ∧ Bl (w27) w') (concat_any hq hp hL (by omega) (by omega)) (fun u w' h => trivial) ?_ ar_nil
    rintro _ u30 ⟨a3, n3, c3, rfl, hs3, hb31⟩
    have hsB := hB.size
    replace hB := hB.go hb31
    replace hp := hp.go hb31
    replace hq := hq.go hb31
    replace hY := hY.go hb31
    replace ht := ht.go hb31
    replace hJ := V.go hJ hb31
    replace hr4 := hr4.go hb31
    replace hL := hL.go hb31
    refine dw_ready [10] (by kernel_rfl) (by simp) ?_
    have l3 := hs3.len
    rw [List.length_append] at l3
    obtain ⟨T34, x35, f36, he37, hi32, hc33⟩ := (hF hOc (by omega) ht hKU hs3 (fun b hb hu => by have := V.lo b hu; have := hB.size; omega) hY hUY hJ hN (Nat.le_trans hB0 hB.size))
    refine ar_call 10 17 f36 (#[x35] ++ #[.slice a3 n3 c3, .func (.func 44) #[] #[.pointer (some ⟨gY, 0, none⟩)]]) rfl (fun _ => by kernel_rfl) (fun _ => hi32 _ _ _ _ _ _ _ rfl (by kernel_rfl) (by kernel_rfl)) (R := RB U J Jx (u30) (pre ++ entsF (q ++ p) t)) ?_ (fun u w' h => trivial) ?_ ar_nil
    · exact hc33
    rintro _ u8 ⟨b8, rfl, hR8, hX8⟩
    have hBk := hB
    refine dt 11 6 (.bool b8) (fun v hv _ => by kernel_rfl) trivial ?_
    refine dw_done (by kernel_rfl) ?_
    refine nw_then ?_
    refine cw_ret ?_
    exact nw_ret_body (.bool b8) (fun _ => by kernel_rfl) ⟨_, rfl, b8, rfl, fun e => ⟨(hR8 e).1, (KpU.of_below _ hBk).trans (hR8 e).2 hBk.size⟩, hX8⟩
  refine ar_call 6 13 152 #[.slice (some ⟨g28, 0, none⟩) 2 2] rfl (fun _ => by kernel_rfl) (fun _ => by kernel_rfl) (R := fun u w' => ∃ a2 n2 c2, u = .slice a2 n2 c2 ∧ Sk (fun b => (w27).heap.size ≤ b) w' a2 n2 c2 (q ++ p) ∧ Bl (w27) w') (concat_any hq hp hL (by omega) (by omega)) (fun u w' h => trivial) ?_ ar_nil
  rintro _ u38 ⟨a3, n3, c3, rfl, hs3, hb39⟩
  have hsB := hB.size
  replace hB := hB.go hb39
  replace hp := hp.go hb39
  replace hq := hq.go hb39
  replace hY := hY.go hb39
  replace ht := ht.go hb39
  replace hJ := V.go hJ hb39
  replace hr4 := hr4.go hb39
  replace hL := hL.go hb39
  refine dw_ready [1] (by kernel_rfl) (by simp) ?_
  refine ar_v 1 8 (.iface Tu xu) rfl (fun _ => by kernel_rfl) (fun _ => ol_cell 70 _ ⟨g2, 1, none⟩ _ _ rfl (by kernel_rfl) (by rw [cell_of_row _ _ _ _ _ _ hr4]; rfl) Tryz.underlying70 rfl) trivial ?_ ar_nil
  refine dt 8 15 (.iface Tu xu) (fun v hv => (fun _ => by kernel_rfl)) trivial ?_
  refine dt 9 16 (.iface Tu xu) (fun v hv _ => by kernel_rfl) trivial ?_
  refine dw_ready [10] (by kernel_rfl) (by simp) ?_
  have l3 := hs3.len
  rw [List.length_append] at l3
  obtain ⟨T42, x43, f44, he45, hi40, hc41⟩ := (hF hOc (by omega) ht hKU hs3 (fun b hb hu => by have := V.lo b hu; have := hB.size; omega) hY hUY hJ hN (Nat.le_trans hB0 hB.size))
  refine ar_call 10 17 f44 (#[x43] ++ #[.slice a3 n3 c3, .func (.func 44) #[] #[.pointer (some ⟨gY, 0, none⟩)]]) rfl (fun _ => by kernel_rfl) (fun _ => hi40 _ _ _ _ _ _ _ rfl (by kernel_rfl) (by kernel_rfl)) (R := RB U J Jx (u38) (pre ++ entsF (q ++ p) t)) ?_ (fun u w' h => trivial) ?_ ar_nil
  · exact hc41
  rintro _ u8 ⟨b8, rfl, hR8, hX8⟩
  have hBk := hB
  refine dt 11 6 (.bool b8) (fun v hv _ => by kernel_rfl) trivial ?_
  refine dw_done (by kernel_rfl) ?_
  refine nw_then ?_
  refine cw_ret ?_
  exact nw_ret_body (.bool b8) (fun _ => by kernel_rfl) ⟨_, rfl, b8, rfl, fun e => ⟨(hR8 e).1, (KpU.of_below _ hBk).trans (hR8 e).2 hBk.size⟩, hX8⟩
set_option maxHeartbeats 4000000 in
theorem beach_z {l B0 : Nat} {Z : PList} {U : Nat → Prop} {J : PList → World → Prop} {Jx : World → Prop} (V : Vis l B0 Z U J Jx) {K K' : Nat → Prop} {w : World} {a : Option Addr} {n c B : Nat} {x : List Int} {k : Nat → Tr} {vs : Nat → Value} (hk0 : TK K w k vs) (hx : Sk K w a n c x) (hn2 : n ≤ 256) (hKU : ∀ b, K b → ¬ U b) (hF : ∀ i, EC l B0 Z U J Jx (k i)) (hO : ∀ j, k j = no ∨ (1 ≤ B ∧ Tr.Ok (B - 1) (k j))) {aq : Option Addr} {nq cq : Nat} {q : List Int} (hq0 : Sk K' w aq nq cq q) {gY : Nat} (hY0 : Rw gY w #[.func (.yield l) #[] #[]] 56) {pre : PList} (hJ : J pre w) (hN : True) (hB0 : B0 ≤ w.heap.size) (hKU' : ∀ b, K' b → ¬ U b) (hUY : ¬ U gY) (h64 : nq + B ≤ 64) (hnz : n = 0) {L : PList} (hL0 : L = pre ++ flK q k 16) (hLN : L <+: Z) :
    Calls Tryz.prog 158 #[.agg (brc vs (.slice a n c)), .slice aq nq cq, .func (.func 44) #[] #[.pointer (some ⟨gY, 0, none⟩)]] w fun e w' => ∃ u, e = .returned u ∧ RB U J Jx w L u w' := by
  have hk := hk0
  have hq := hq0
  have hY := hY0
  have hB := Bl.refl w
  have lx := hx.len
  have lq := hq.len
  refine cw_enter Tryz.func158 rfl 45 rfl ?_
  show CW _ _ _ _ _ _ _ [(0, .agg (brc vs (.slice a n c))), (1, .slice aq nq cq), (2, .func (.func 44) #[] #[.pointer (some ⟨gY, 0, none⟩)])] _
  refine cw_seq ?_
  refine cw_region ?_
  refine rw_new 3 (brc vs (.slice a n c)) 184 (fun _ => by kernel_rfl) (fun _ => by kernel_rfl) ?_
  intro w1 g2 hn3
  replace hB := hB.go hn3.below
  replace hx := hx.go hn3.below
  replace hq := hq.go hn3.below
  replace hY := hY.go hn3.below
  replace hk := hk.go hn3.below
  replace hJ := V.go hJ hn3.below
  have hr4 : Rw g2 w1 (brc vs (.slice a n c)) 184 := hn3.row
  refine rp 6 (.bool false) ?_
  refine rw_nil ?_
  have hgb := hn3.hg
  refine nw_then ?_
  refine cw_seq ?_
  refine cw_seq ?_
  refine cw_region ?_
  refine rp 9 (.pointer (some ⟨g2, 16, none⟩)) ?_
  refine rv 10 (.slice a n c) (fun _ => ol_cell 32 _ ⟨g2, 16, none⟩ _ _ rfl (by kernel_rfl) (by rw [cell_of_row _ _ _ _ _ _ hr4]; rfl) Tryz.underlying32 rfl) ?_
  refine rp 11 (.int .i64 n) ?_
  refine rv 12 (.bool false) (fun _ => ol_conv (v := .bool (decide ((n : Int) > (0 : Int)))) (by kernel_rfl) (congrArg Value.bool (decide_eq_false (by omega)))) ?_
  refine rp 13 (.bool false) ?_
  refine rw_off 14 (fun _ => by kernel_rfl) ?_
  refine rw_off 15 (fun _ => by kernel_rfl) ?_
  refine rw_off 16 (fun _ => by kernel_rfl) ?_
  refine rw_off 17 (fun _ => by kernel_rfl) ?_
  refine rw_off 18 (fun _ => by kernel_rfl) ?_
  refine rw_off 19 (fun _ => by kernel_rfl) ?_
  refine rp 20 (.bool false) ?_
  refine rw_nil ?_
  refine nw_then ?_
  refine cw_cond_f (fun _ => by kernel_rfl) ?_
  refine cw_skip ?_
  refine nw_then ?_
  refine cw_seq ?_
  refine cw_seq ?_
  refine cw_region ?_
  refine rp 21 (.pointer (some ⟨g2, 0, none⟩)) ?_
  refine rv 22 (.agg (bra vs)) (fun _ => ol_arr hr4 _ rfl (by kernel_rfl)) ?_
  refine rp 23 (.int .i64 0) ?_
  refine rw_nil ?_
  refine nw_then ?_
  refine cw_block ?_
  have hKw : KpU U w.heap.size w w1 := KpU.of_below _ hB
  clear hk hx hq hY hB
  refine cw_loop (X := Nat) (fun j => [(23, .int .i64 ((j : Nat) : Int)), (22, .agg (bra vs)), (1, .slice aq nq cq), (2, .func (.func 44) #[] #[.pointer (some ⟨gY, 0, none⟩)])]) (fun j v => J (pre ++ flK q k j) v ∧ KpU U w.heap.size w v ∧ j ≤ 16) (fun j => 16 - j) 0 (by exact ⟨fun _ => by kernel_rfl, ⟨fun _ => by kernel_rfl, ⟨fun _ => by kernel_rfl, ⟨fun _ => by kernel_rfl, trivial⟩⟩⟩⟩) ⟨by rw [show flK q k 0 = [] from rfl, List.append_nil]; exact hJ, hKw, Nat.zero_le _⟩ ?_
  clear hJ hKw hr4
  rintro j v ⟨hJ, hKw, hj⟩
  have hk := hk0.kp hKw hKU
  have hq := hq0.kp hKw (Nat.le_refl _) hKU'
  have hY := hY0.kp hKw (lt_of_get hY0) hUY
  by_cases hlt : j < 16
  · skip
    have hB := Bl.refl v
    rcases hO j with hno | ⟨hB1, hOk⟩
    · skip
      have e0 : vs j = .nilIface := by have := hk j hlt; rw [hno] at this; exact this
      refine cw_seq ?_
      refine cw_region ?_
      refine rv 24 (.bool true) (fun _ => ol_conv (v := .bool (decide (((j : Nat) : Int) < (16 : Int)))) (by kernel_rfl) (congrArg Value.bool (decide_eq_true (by omega)))) ?_
      refine rw_nil ?_
      refine nw_then ?_
      refine cw_seq ?_
      refine cw_cond_t (fun _ => by kernel_rfl) ?_
      refine cw_skip ?_
      refine nw_then ?_
      refine cw_seq ?_
      refine cw_block ?_
      refine cw_seq ?_
      refine cw_region ?_
      refine rp 25 (.int .i64 ((j : Nat) : Int)) ?_
      refine rv 26 (.nilIface) (fun _ => ol_conv (ol_ixa _ _ vs j hlt rfl (by kernel_rfl) (by kernel_rfl)) e0) ?_
      refine rp 7 (.int .i64 ((j : Nat) : Int)) ?_
      refine rp 8 (.nilIface) ?_
      refine rw_nil ?_
      refine nw_then ?_
      refine cw_seq ?_
      refine cw_draw (fun _ => True) (by kernel_rfl) (trivial) ?_
      replace hJ := V.go hJ (Below.refl _ _).drew
      replace hk := hk.drew
      replace hq := hq.drew
      replace hY := hY.drew
      replace hB := hB.drew
      refine dt 0 27 (.nilIface) (fun v hv _ => by kernel_rfl) trivial ?_
      refine dt 1 28 (.bool false) (fun v hv => (fun _ => by kernel_rfl)) trivial ?_
      refine dt 2 29 (.bool false) (fun v hv _ => by kernel_rfl) trivial ?_
      refine df 3 30 trivial ?_
      refine df 4 31 trivial ?_
      refine df 5 32 trivial ?_
      refine df 6 33 trivial ?_
      refine df 7 34 trivial ?_
      refine df 8 35 trivial ?_
      refine df 9 36 trivial ?_
      refine df 10 37 trivial ?_
      refine df 11 38 trivial ?_
      refine df 12 39 trivial ?_
      refine df 13 40 trivial ?_
      refine df 14 41 trivial ?_
      refine df 15 42 trivial ?_
      refine dt 16 43 (.bool false) (fun v hv _ => by kernel_rfl) trivial ?_
      refine dw_done (by kernel_rfl) ?_
      refine nw_then ?_
      refine cw_cond_f (fun _ => by kernel_rfl) ?_
      refine cw_skip ?_
      refine nw_block ?_
      refine nw_then ?_
      refine cw_region ?_
      refine rv 44 (.int .i64 (((j : Nat) : Int) + 1)) (fun _ => ol_conv (v := .int .i64 (IntKind.i64.wrap (((j : Nat) : Int) + 1))) (by kernel_rfl) (congrArg (Value.int .i64) (wrap64 (by omega) (by omega)))) ?_
      refine rp 23 (.int .i64 (((j : Nat) : Int) + 1)) ?_
      refine rw_nil ?_
      exact nw_round (E := fun j => [(23, .int .i64 ((j : Nat) : Int)), (22, .agg (bra vs)), (1, .slice aq nq cq), (2, .func (.func 44) #[] #[.pointer (some ⟨gY, 0, none⟩)])]) (R := fun j v => J (pre ++ flK q k j) v ∧ KpU U w.heap.size w v ∧ j ≤ 16) (μ := fun j => 16 - j) (x := j) (j + 1) (by exact ⟨fun _ => by kernel_rfl, ⟨fun _ => by kernel_rfl, ⟨fun _ => by kernel_rfl, ⟨fun _ => by kernel_rfl, trivial⟩⟩⟩⟩) ⟨by rw [flK_no hno]; exact hJ, hKw.trans (KpU.of_below w.heap.size hB) (Nat.le_refl _), by omega⟩ (by omega)
    · skip
      obtain ⟨T0, v0, e0⟩ := (hk j hlt).iface hOk.ne
      have hti := hk j hlt
      rw [e0] at hti
      refine cw_seq ?_
      refine cw_region ?_
      refine rv 24 (.bool true) (fun _ => ol_conv (v := .bool (decide (((j : Nat) : Int) < (16 : Int)))) (by kernel_rfl) (congrArg Value.bool (decide_eq_true (by omega)))) ?_
      refine rw_nil ?_
      refine nw_then ?_
      refine cw_seq ?_
      refine cw_cond_t (fun _ => by kernel_rfl) ?_
      refine cw_skip ?_
      refine nw_then ?_
      refine cw_seq ?_
      refine cw_block ?_
      refine cw_seq ?_
      refine cw_region ?_
      refine rp 25 (.int .i64 ((j : Nat) : Int)) ?_
      refine rv 26 (.iface T0 v0) (fun _ => ol_conv (ol_ixa _ _ vs j hlt rfl (by kernel_rfl) (by kernel_rfl)) e0) ?_
      refine rp 7 (.int .i64 ((j : Nat) : Int)) ?_
      refine rp 8 (.iface T0 v0) ?_
      refine rw_nil ?_
      refine nw_then ?_
      refine cw_seq ?_
      refine cw_draw (fun _ => True) (by kernel_rfl) (trivial) ?_
      replace hJ := V.go hJ (Below.refl _ _).drew
      replace hk := hk.drew
      replace hq := hq.drew
      replace hY := hY.drew
      replace hB := hB.drew
      replace hti := hti.drew
      refine dt 0 27 (.iface T0 v0) (fun v hv _ => by kernel_rfl) trivial ?_
      refine dt 1 28 (.bool true) (fun v hv => (fun _ => by kernel_rfl)) trivial ?_
      refine dt 2 29 (.bool true) (fun v hv _ => by kernel_rfl) trivial ?_
      refine dt 3 30 (.iface T0 v0) (fun v hv _ => by kernel_rfl) trivial ?_
      refine dt 4 31 (.slice aq nq cq) (fun v hv _ => by kernel_rfl) trivial ?_
      refine dt 5 32 (.int .i64 ((j : Nat) : Int)) (fun v hv _ => by kernel_rfl) trivial ?_
      refine dt 6 33 (.int .u8 ((j : Nat) : Int)) (fun v hv _ => ol_conv (v := .int .u8 (IntKind.u8.wrap ((j : Nat) : Int))) (by kernel_rfl) (congrArg (Value.int .u8) (wrap8 hlt))) trivial ?_
      refine dt 10 37 (.func (.func 44) #[] #[.pointer (some ⟨gY, 0, none⟩)]) (fun v hv _ => by kernel_rfl) trivial ?_
      refine dt 11 38 (.func (.method "pergola/trie.each") #[.iface T0 v0] #[]) (fun v hv => (fun _ => by kernel_rfl)) trivial ?_
      refine dt 12 39 (.func (.method "pergola/trie.each") #[.iface T0 v0] #[]) (fun v hv _ => ol_nilm hti hOk.ne 38 rfl (by kernel_rfl)) trivial ?_
      refine dt 13 40 (.iface T0 v0) (fun v hv _ => by kernel_rfl) trivial ?_
      refine dw_ready [7] (by kernel_rfl) (by simp) ?_
      refine ar_newS 7 34 #[.int .u8 ((j : Nat) : Int)] 5 1 rfl (fun _ => by kernel_rfl) (fun _ => by kernel_rfl) (fun w' g h => trivial) ?_ ar_nil
      intro wI gI hnI
      have h1 : Sk (fun b => True) wI (some ⟨gI, 0, none⟩) 1 1 [((j : Nat) : Int)] := one_sk (by omega) hnI (fun _ _ => trivial)
      replace hJ := V.go hJ hnI.below
      replace hk := hk.go hnI.below
      replace hq := hq.go hnI.below
      replace hY := hY.go hnI.below
      replace hB := hB.go hnI.below
      replace hti := hti.go hnI.below
      refine dw_ready [8] (by kernel_rfl) (by simp) ?_
      refine ar_newS 8 35 #[.slice aq nq cq, .slice (some ⟨gI, 0, none⟩) 1 1] 32 2 rfl (fun _ => by kernel_rfl) (fun _ => by kernel_rfl) (fun w' g h => trivial) ?_ ar_nil
      intro w5 g6 hn7
      replace hJ := V.go hJ hn7.below
      replace hk := hk.go hn7.below
      replace hq := hq.go hn7.below
      replace hY := hY.go hn7.below
      replace hB := hB.go hn7.below
      replace hti := hti.go hn7.below
      replace h1 := h1.go hn7.below
      have hL : Rw g6 w5 #[.slice aq nq cq, .slice (some ⟨gI, 0, none⟩) 1 1] 32 := hn7.row
      refine dw_ready [9] (by kernel_rfl) (by simp) ?_
      refine ar_call 9 36 152 #[.slice (some ⟨g6, 0, none⟩) 2 2] rfl (fun _ => by kernel_rfl) (fun _ => by kernel_rfl) (R := fun u w' => ∃ a2 n2 c2, u = .slice a2 n2 c2 ∧ Sk (fun b => (w5).heap.size ≤ b) w' a2 n2 c2 (q ++ [((j : Nat) : Int)]) ∧ Bl (w5) w') (concat_any hq h1 hL (by omega) (by omega)) (fun u w' h => trivial) ?_ ar_nil
      rintro _ u8 ⟨a3, n3, c3, rfl, hs3, hb9⟩
      have hsB := hB.size
      replace hJ := V.go hJ hb9
      replace hk := hk.go hb9
      replace hq := hq.go hb9
      replace hY := hY.go hb9
      replace hB := hB.go hb9
      replace hti := hti.go hb9
      replace h1 := h1.go hb9
      replace hL := hL.go hb9
      refine dw_ready [14] (by kernel_rfl) (by simp) ?_
      have l3 := hs3.len
      rw [List.length_append, List.length_singleton] at l3
      obtain ⟨T12, x13, f14, he15, hi10, hc11⟩ := (hF j hOk (by omega) hti hKU hs3 (fun b hb hu => by have := V.lo b hu; have := hB.size; have := hKw.size; omega) hY hUY hJ (by rw [hL0] at hLN; rw [List.append_assoc, ← flK_yes hOk.ne]; exact ((List.prefix_append_right_inj _).2 (flK_le q k (show j + 1 ≤ 16 by omega))).trans hLN) (Nat.le_trans hB0 (Nat.le_trans hKw.size hB.size)))
      refine ar_call 14 41 f14 (#[x13] ++ #[.slice a3 n3 c3, .func (.func 44) #[] #[.pointer (some ⟨gY, 0, none⟩)]]) rfl (fun _ => by kernel_rfl) (fun _ => hi10 _ _ _ _ _ _ _ rfl (by kernel_rfl) (by kernel_rfl)) (R := RB U J Jx (u8) (pre ++ flK q k j ++ entsF (q ++ [((j : Nat) : Int)]) (k j))) ?_ (fun u w' h => trivial) ?_ ar_nil
      · exact hc11
      rintro _ u9 ⟨b9, rfl, hR9, hX9⟩
      have hBk9 := hB
      refine dt 15 42 (.bool (!b9)) (fun v hv _ => by kernel_rfl) trivial ?_
      refine dt 16 43 (.bool (!b9)) (fun v hv _ => by kernel_rfl) trivial ?_
      refine dw_done (by kernel_rfl) ?_
      refine nw_then ?_
      cases b9 with
      | true =>
        show CW _ _ _ _ _ _ _ [(43, .bool false), (42, .bool false), (41, .bool true), (36, .slice a3 n3 c3), (35, .slice (some ⟨g6, 0, none⟩) 2 2), (34, .slice (some ⟨gI, 0, none⟩) 1 1), (40, .iface T0 v0), (39, .func (.method "pergola/trie.each") #[.iface T0 v0] #[]), (38, .func (.method "pergola/trie.each") #[.iface T0 v0] #[]), (37, .func (.func 44) #[] #[.pointer (some ⟨gY, 0, none⟩)]), (33, .int .u8 ((j : Nat) : Int)), (32, .int .i64 ((j : Nat) : Int)), (31, .slice aq nq cq), (30, .iface T0 v0), (29, .bool true), (28, .bool true), (27, .iface T0 v0), (8, .iface T0 v0), (7, .int .i64 ((j : Nat) : Int)), (26, .iface T0 v0), (25, .int .i64 ((j : Nat) : Int)), (24, .bool true), (23, .int .i64 ((j : Nat) : Int)), (22, .agg (bra vs)), (1, .slice aq nq cq), (2, .func (.func 44) #[] #[.pointer (some ⟨gY, 0, none⟩)])] _
        refine cw_cond_f (fun _ => by kernel_rfl) ?_
        refine cw_skip ?_
        refine nw_block ?_
        refine nw_then ?_
        refine cw_region ?_
        refine rv 44 (.int .i64 (((j : Nat) : Int) + 1)) (fun _ => ol_conv (v := .int .i64 (IntKind.i64.wrap (((j : Nat) : Int) + 1))) (by kernel_rfl) (congrArg (Value.int .i64) (wrap64 (by omega) (by omega)))) ?_
        refine rp 23 (.int .i64 (((j : Nat) : Int) + 1)) ?_
        refine rw_nil ?_
        exact nw_round (E := fun j => [(23, .int .i64 ((j : Nat) : Int)), (22, .agg (bra vs)), (1, .slice aq nq cq), (2, .func (.func 44) #[] #[.pointer (some ⟨gY, 0, none⟩)])]) (R := fun j v => J (pre ++ flK q k j) v ∧ KpU U w.heap.size w v ∧ j ≤ 16) (μ := fun j => 16 - j) (x := j) (j + 1) (by exact ⟨fun _ => by kernel_rfl, ⟨fun _ => by kernel_rfl, ⟨fun _ => by kernel_rfl, ⟨fun _ => by kernel_rfl, trivial⟩⟩⟩⟩) ⟨by rw [flK_yes hOk.ne, ← List.append_assoc]; exact (hR9 rfl).1, (hKw.trans (KpU.of_below w.heap.size hBk9) (Nat.le_refl _)).trans (hR9 rfl).2 (Nat.le_trans hKw.size hBk9.size), by omega⟩ (by omega)
      | false =>
        show CW _ _ _ _ _ _ _ [(43, .bool true), (42, .bool true), (41, .bool false), (36, .slice a3 n3 c3), (35, .slice (some ⟨g6, 0, none⟩) 2 2), (34, .slice (some ⟨gI, 0, none⟩) 1 1), (40, .iface T0 v0), (39, .func (.method "pergola/trie.each") #[.iface T0 v0] #[]), (38, .func (.method "pergola/trie.each") #[.iface T0 v0] #[]), (37, .func (.func 44) #[] #[.pointer (some ⟨gY, 0, none⟩)]), (33, .int .u8 ((j : Nat) : Int)), (32, .int .i64 ((j : Nat) : Int)), (31, .slice aq nq cq), (30, .iface T0 v0), (29, .bool true), (28, .bool true), (27, .iface T0 v0), (8, .iface T0 v0), (7, .int .i64 ((j : Nat) : Int)), (26, .iface T0 v0), (25, .int .i64 ((j : Nat) : Int)), (24, .bool true), (23, .int .i64 ((j : Nat) : Int)), (22, .agg (bra vs)), (1, .slice aq nq cq), (2, .func (.func 44) #[] #[.pointer (some ⟨gY, 0, none⟩)])] _
        refine cw_cond_t (fun _ => by kernel_rfl) ?_
        refine cw_seq ?_
        refine cw_region ?_
        refine rp 6 (.bool false) ?_
        refine rw_nil ?_
        refine nw_then ?_
        refine cw_ret ?_
        refine nw_ret_block ?_
        refine nw_ret_then ?_
        refine nw_ret_then ?_
        refine nw_ret_block ?_
        refine nw_ret_then ?_
        exact nw_ret_body (.bool false) (fun _ => by kernel_rfl) ⟨_, rfl, false, rfl, (fun e => by cases e), fun _ => hX9 rfl⟩
  obtain rfl : j = 16 := by omega
  show CW _ _ _ _ _ _ _ [(23, .int .i64 16), (22, .agg (bra vs)), (1, .slice aq nq cq), (2, .func (.func 44) #[] #[.pointer (some ⟨gY, 0, none⟩)])] _
  refine cw_seq ?_
  refine cw_region ?_
  refine rp 24 (.bool false) ?_
  refine rw_nil ?_
  refine nw_then ?_
  refine cw_seq ?_
  refine cw_cond_f (fun _ => by kernel_rfl) ?_
  refine cw_exit ?_
  refine nw_exit_then ?_
  refine nw_exit_then ?_
  refine nw_exit_here ?_
  refine nw_then ?_
  refine cw_seq ?_
  refine cw_region ?_
  refine rp 6 (.bool true) ?_
  refine rw_nil ?_
  refine nw_then ?_
  refine cw_ret ?_
  exact nw_ret_body (.bool true) (fun _ => by kernel_rfl) ⟨_, rfl, true, rfl, (fun _ => ⟨by rw [hL0]; exact hJ, hKw⟩), fun e => by cases e⟩
set_option maxHeartbeats 4000000 in
theorem beach_p {l B0 : Nat} {Z : PList} {U : Nat → Prop} {J : PList → World → Prop} {Jx : World → Prop} (V : Vis l B0 Z U J Jx) {K K' : Nat → Prop} {w : World} {a : Option Addr} {n c B : Nat} {x : List Int} {k : Nat → Tr} {vs : Nat → Value} (hk0 : TK K w k vs) (hx : Sk K w a n c x) (hn2 : n ≤ 256) (hKU : ∀ b, K b → ¬ U b) (hF : ∀ i, EC l B0 Z U J Jx (k i)) (hO : ∀ j, k j = no ∨ (1 ≤ B ∧ Tr.Ok (B - 1) (k j))) {aq : Option Addr} {nq cq : Nat} {q : List Int} (hq0 : Sk K' w aq nq cq q) {gY : Nat} (hY0 : Rw gY w #[.func (.yield l) #[] #[]] 56) {pre : PList} (hJ : J pre w) (hN : True) (hB0 : B0 ≤ w.heap.size) (hKU' : ∀ b, K' b → ¬ U b) (hUY : ¬ U gY) (h64 : nq + B ≤ 64) (hnz : 0 < n) {L : PList} (hL0 : L = pre ++ [((Ni.keyP q).1, x)] ++ flK q k 16) (hLN : L <+: Z) :
    Calls Tryz.prog 158 #[.agg (brc vs (.slice a n c)), .slice aq nq cq, .func (.func 44) #[] #[.pointer (some ⟨gY, 0, none⟩)]] w fun e w' => ∃ u, e = .returned u ∧ RB U J Jx w L u w' := by
  have hk := hk0
  have hq := hq0
  have hY := hY0
  have hB := Bl.refl w
  have lx := hx.len
  have lq := hq.len
  refine cw_enter Tryz.func158 rfl 45 rfl ?_
  show CW _ _ _ _ _ _ _ [(0, .agg (brc vs (.slice a n c))), (1, .slice aq nq cq), (2, .func (.func 44) #[] #[.pointer (some ⟨gY, 0, none⟩)])] _
  refine cw_seq ?_
  refine cw_region ?_
  refine rw_new 3 (brc vs (.slice a n c)) 184 (fun _ => by kernel_rfl) (fun _ => by kernel_rfl) ?_
  intro w1 g2 hn3
  replace hB := hB.go hn3.below
  replace hx := hx.go hn3.below
  replace hq := hq.go hn3.below
  replace hY := hY.go hn3.below
  replace hk := hk.go hn3.below
  replace hJ := V.go hJ hn3.below
  have hr4 : Rw g2 w1 (brc vs (.slice a n c)) 184 := hn3.row
  refine rp 6 (.bool false) ?_
  refine rw_nil ?_
  have hgb := hn3.hg
  refine nw_then ?_
  refine cw_seq ?_
  refine cw_seq ?_
  refine cw_region ?_
  refine rp 9 (.pointer (some ⟨g2, 16, none⟩)) ?_
  refine rv 10 (.slice a n c) (fun _ => ol_cell 32 _ ⟨g2, 16, none⟩ _ _ rfl (by kernel_rfl) (by rw [cell_of_row _ _ _ _ _ _ hr4]; rfl) Tryz.underlying32 rfl) ?_
  refine rp 11 (.int .i64 n) ?_
  refine rv 12 (.bool true) (fun _ => ol_conv (v := .bool (decide ((n : Int) > (0 : Int)))) (by kernel_rfl) (congrArg Value.bool (decide_eq_true (by omega)))) ?_
  refine rp 13 (.bool true) ?_
  refine rp 14 (.func (.func 44) #[] #[.pointer (some ⟨gY, 0, none⟩)]) ?_
  refine rp 15 (.slice aq nq cq) ?_
  refine rp 16 (.pointer (some ⟨g2, 16, none⟩)) ?_
  refine rv 17 (.slice a n c) (fun _ => ol_cell 32 _ ⟨g2, 16, none⟩ _ _ rfl (by kernel_rfl) (by rw [cell_of_row _ _ _ _ _ _ hr4]; rfl) Tryz.underlying32 rfl) ?_
  refine rw_call 18 44 #[.slice aq nq cq, .slice a n c, .pointer (some ⟨gY, 0, none⟩)] (fun _ => by kernel_rfl) (fun _ => by kernel_rfl) (R := RB U J Jx (w1) (pre ++ [((Ni.keyP q).1, x)])) (clb_any V hq hx (by omega) (by omega) hY hJ (by rw [hL0] at hLN; exact (List.prefix_append _ _).trans hLN) (Nat.le_trans hB0 hB.size)) ?_
  rintro _ u8 ⟨b8, rfl, hR8, hX8⟩
  have hBk := hB
  refine rp 19 (.bool (!b8)) ?_
  refine rp 20 (.bool (!b8)) ?_
  refine rw_nil ?_
  refine nw_then ?_
  cases b8 with
  | true =>
    show CW _ _ _ _ _ _ _ [(20, .bool false), (19, .bool false), (18, .bool true), (17, .slice a n c), (16, .pointer (some ⟨g2, 16, none⟩)), (15, .slice aq nq cq), (14, .func (.func 44) #[] #[.pointer (some ⟨gY, 0, none⟩)]), (13, .bool true), (12, .bool true), (11, .int .i64 n), (10, .slice a n c), (9, .pointer (some ⟨g2, 16, none⟩)), (6, .bool false), (3, .pointer (some ⟨g2, 0, none⟩)), (0, .agg (brc vs (.slice a n c))), (1, .slice aq nq cq), (2, .func (.func 44) #[] #[.pointer (some ⟨gY, 0, none⟩)])] _
    obtain ⟨hJ8, hk8⟩ := hR8 rfl
    replace hr4 := hr4.kp hk8 (lt_of_get hr4) (fun hu => by have := V.lo _ hu; omega)
    have hKw : KpU U w.heap.size w u8 := (KpU.of_below _ hBk).trans hk8 hBk.size
    replace hJ := hJ8
    clear hk hx hq hY hB
    refine cw_cond_f (fun _ => by kernel_rfl) ?_
    refine cw_skip ?_
    refine nw_then ?_
    refine cw_seq ?_
    refine cw_seq ?_
    refine cw_region ?_
    refine rp 21 (.pointer (some ⟨g2, 0, none⟩)) ?_
    refine rv 22 (.agg (bra vs)) (fun _ => ol_arr hr4 _ rfl (by kernel_rfl)) ?_
    refine rp 23 (.int .i64 0) ?_
    refine rw_nil ?_
    refine nw_then ?_
    refine cw_block ?_
    refine cw_loop (X := Nat) (fun j => [(23, .int .i64 ((j : Nat) : Int)), (22, .agg (bra vs)), (1, .slice aq nq cq), (2, .func (.func 44) #[] #[.pointer (some ⟨gY, 0, none⟩)])]) (fun j v => J (pre ++ [((Ni.keyP q).1, x)] ++ flK q k j) v ∧ KpU U w.heap.size w v ∧ j ≤ 16) (fun j => 16 - j) 0 (by exact ⟨fun _ => by kernel_rfl, ⟨fun _ => by kernel_rfl, ⟨fun _ => by kernel_rfl, ⟨fun _ => by kernel_rfl, trivial⟩⟩⟩⟩) ⟨by rw [show flK q k 0 = [] from rfl, List.append_nil]; exact hJ, hKw, Nat.zero_le _⟩ ?_
    clear hJ hKw hr4
    rintro j v ⟨hJ, hKw, hj⟩
    have hk := hk0.kp hKw hKU
    have hq := hq0.kp hKw (Nat.le_refl _) hKU'
    have hY := hY0.kp hKw (lt_of_get hY0) hUY
    by_cases hlt : j < 16
    · skip
      have hB := Bl.refl v
      rcases hO j with hno | ⟨hB1, hOk⟩
      · skip
        have e0 : vs j = .nilIface := by have := hk j hlt; rw [hno] at this; exact this
        refine cw_seq ?_
        refine cw_region ?_
        refine rv 24 (.bool true) (fun _ => ol_conv (v := .bool (decide (((j : Nat) : Int) < (16 : Int)))) (by kernel_rfl) (congrArg Value.bool (decide_eq_true (by omega)))) ?_
        refine rw_nil ?_
        refine nw_then ?_
        refine cw_seq ?_
        refine cw_cond_t (fun _ => by kernel_rfl) ?_
        refine cw_skip ?_
        refine nw_then ?_
        refine cw_seq ?_
        refine cw_block ?_
        refine cw_seq ?_
        refine cw_region ?_
        refine rp 25 (.int .i64 ((j : Nat) : Int)) ?_
        refine rv 26 (.nilIface) (fun _ => ol_conv (ol_ixa _ _ vs j hlt rfl (by kernel_rfl) (by kernel_rfl)) e0) ?_
        refine rp 7 (.int .i64 ((j : Nat) : Int)) ?_
        refine rp 8 (.nilIface) ?_
        refine rw_nil ?_
        refine nw_then ?_
        refine cw_seq ?_
        refine cw_draw (fun _ => True) (by kernel_rfl) (trivial) ?_
        replace hJ := V.go hJ (Below.refl _ _).drew
        replace hk := hk.drew
        replace hq := hq.drew
        replace hY := hY.drew
        replace hB := hB.drew
        refine dt 0 27 (.nilIface) (fun v hv _ => by kernel_rfl) trivial ?_
        refine dt 1 28 (.bool false) (fun v hv => (fun _ => by kernel_rfl)) trivial ?_
        refine dt 2 29 (.bool false) (fun v hv _ => by kernel_rfl) trivial ?_
        refine df 3 30 trivial ?_
        refine df 4 31 trivial ?_
        refine df 5 32 trivial ?_
        refine df 6 33 trivial ?_
        refine df 7 34 trivial ?_
        refine df 8 35 trivial ?_
        refine df 9 36 trivial ?_
        refine df 10 37 trivial ?_
        refine df 11 38 trivial ?_
        refine df 12 39 trivial ?_
        refine df 13 40 trivial ?_
        refine df 14 41 trivial ?_
        refine df 15 42 trivial ?_
        refine dt 16 43 (.bool false) (fun v hv _ => by kernel_rfl) trivial ?_
        refine dw_done (by kernel_rfl) ?_
        refine nw_then ?_
        refine cw_cond_f (fun _ => by kernel_rfl) ?_
        refine cw_skip ?_
        refine nw_block ?_
        refine nw_then ?_
        refine cw_region ?_
        refine rv 44 (.int .i64 (((j : Nat) : Int) + 1)) (fun _ => ol_conv (v := .int .i64 (IntKind.i64.wrap (((j : Nat) : Int) + 1))) (by kernel_rfl) (congrArg (Value.int .i64) (wrap64 (by omega) (by omega)))) ?_
        refine rp 23 (.int .i64 (((j : Nat) : Int) + 1)) ?_
        refine rw_nil ?_
        exact nw_round (E := fun j => [(23, .int .i64 ((j : Nat) : Int)), (22, .agg (bra vs)), (1, .slice aq nq cq), (2, .func (.func 44) #[] #[.pointer (some ⟨gY, 0, none⟩)])]) (R := fun j v => J (pre ++ [((Ni.keyP q).1, x)] ++ flK q k j) v ∧ KpU U w.heap.size w v ∧ j ≤ 16) (μ := fun j => 16 - j) (x := j) (j + 1) (by exact ⟨fun _ => by kernel_rfl, ⟨fun _ => by kernel_rfl, ⟨fun _ => by kernel_rfl, ⟨fun _ => by kernel_rfl, trivial⟩⟩⟩⟩) ⟨by rw [flK_no hno]; exact hJ, hKw.trans (KpU.of_below w.heap.size hB) (Nat.le_refl _), by omega⟩ (by omega)
      · skip
        obtain ⟨T0, v0, e0⟩ := (hk j hlt).iface hOk.ne
        have hti := hk j hlt
        rw [e0] at hti
        refine cw_seq ?_
        refine cw_region ?_
        refine rv 24 (.bool true) (fun _ => ol_conv (v := .bool (decide (((j : Nat) : Int) < (16 : Int)))) (by kernel_rfl) (congrArg Value.bool (decide_eq_true (by omega)))) ?_
        refine rw_nil ?_
        refine nw_then ?_
        refine cw_seq ?_
        refine cw_cond_t (fun _ => by kernel_rfl) ?_
        refine cw_skip ?_
        refine nw_then ?_
        refine cw_seq ?_
        refine cw_block ?_
        refine cw_seq ?_
        refine cw_region ?_
        refine rp 25 (.int .i64 ((j : Nat) : Int)) ?_
        refine rv 26 (.iface T0 v0) (fun _ => ol_conv (ol_ixa _ _ vs j hlt rfl (by kernel_rfl) (by kernel_rfl)) e0) ?_
        refine rp 7 (.int .i64 ((j : Nat) : Int)) ?_
        refine rp 8 (.iface T0 v0) ?_
        refine rw_nil ?_
        refine nw_then ?_
        refine cw_seq ?_
        refine cw_draw (fun _ => True) (by kernel_rfl) (trivial) ?_
        replace hJ := V.go hJ (Below.refl _ _).drew
        replace hk := hk.drew
        replace hq := hq.drew
        replace hY := hY.drew
        replace hB := hB.drew
        replace hti := hti.drew
        refine dt 0 27 (.iface T0 v0) (fun v hv _ => by kernel_rfl) trivial ?_
        refine dt 1 28 (.bool true) (fun v hv => (fun _ => by kernel_rfl)) trivial ?_
        refine dt 2 29 (.bool true) (fun v hv _ => by kernel_rfl) trivial ?_
        refine dt 3 30 (.iface T0 v0) (fun v hv _ => by kernel_rfl) trivial ?_
        refine dt 4 31 (.slice aq nq cq) (fun v hv _ => by kernel_rfl) trivial ?_
        refine dt 5 32 (.int .i64 ((j : Nat) : Int)) (fun v hv _ => by kernel_rfl) trivial ?_
        refine dt 6 33 (.int .u8 ((j : Nat) : Int)) (fun v hv _ => ol_conv (v := .int .u8 (IntKind.u8.wrap ((j : Nat) : Int))) (by kernel_rfl) (congrArg (Value.int .u8) (wrap8 hlt))) trivial ?_
        refine dt 10 37 (.func (.func 44) #[] #[.pointer (some ⟨gY, 0, none⟩)]) (fun v hv _ => by kernel_rfl) trivial ?_
        refine dt 11 38 (.func (.method "pergola/trie.each") #[.iface T0 v0] #[]) (fun v hv => (fun _ => by kernel_rfl)) trivial ?_
        refine dt 12 39 (.func (.method "pergola/trie.each") #[.iface T0 v0] #[]) (fun v hv _ => ol_nilm hti hOk.ne 38 rfl (by kernel_rfl)) trivial ?_
        refine dt 13 40 (.iface T0 v0) (fun v hv _ => by kernel_rfl) trivial ?_
        refine dw_ready [7] (by kernel_rfl) (by simp) ?_
        refine ar_newS 7 34 #[.int .u8 ((j : Nat) : Int)] 5 1 rfl (fun _ => by kernel_rfl) (fun _ => by kernel_rfl) (fun w' g h => trivial) ?_ ar_nil
        intro wI gI hnI
        have h1 : Sk (fun b => True) wI (some ⟨gI, 0, none⟩) 1 1 [((j : Nat) : Int)] := one_sk (by omega) hnI (fun _ _ => trivial)
        replace hJ := V.go hJ hnI.below
        replace hk := hk.go hnI.below
        replace hq := hq.go hnI.below
        replace hY := hY.go hnI.below
        replace hB := hB.go hnI.below
        replace hti := hti.go hnI.below
        refine dw_ready [8] (by kernel_rfl) (by simp) ?_
        refine ar_newS 8 35 #[.slice aq nq cq, .slice (some ⟨gI, 0, none⟩) 1 1] 32 2 rfl (fun _ => by kernel_rfl) (fun _ => by kernel_rfl) (fun w' g h => trivial) ?_ ar_nil
        intro w5 g6 hn7
        replace hJ := V.go hJ hn7.below
        replace hk := hk.go hn7.below
        replace hq := hq.go hn7.below
        replace hY := hY.go hn7.below
        replace hB := hB.go hn7.below
        replace hti := hti.go hn7.below
        replace h1 := h1.go hn7.below
        have hL : Rw g6 w5 #[.slice aq nq cq, .slice (some ⟨gI, 0, none⟩) 1 1] 32 := hn7.row
        refine dw_ready [9] (by kernel_rfl) (by simp) ?_
        refine ar_call 9 36 152 #[.slice (some ⟨g6, 0, none⟩) 2 2] rfl (fun _ => by kernel_rfl) (fun _ => by kernel_rfl) (R := fun u w' => ∃ a2 n2 c2, u = .slice a2 n2 c2 ∧ Sk (fun b => (w5).heap.size ≤ b) w' a2 n2 c2 (q ++ [((j : Nat) : Int)]) ∧ Bl (w5) w') (concat_any hq h1 hL (by omega) (by omega)) (fun u w' h => trivial) ?_ ar_nil
        rintro _ u8 ⟨a3, n3, c3, rfl, hs3, hb9⟩
        have hsB := hB.size
        replace hJ := V.go hJ hb9
        replace hk := hk.go hb9
        replace hq := hq.go hb9
        replace hY := hY.go hb9
        replace hB := hB.go hb9
        replace hti := hti.go hb9
        replace h1 := h1.go hb9
        replace hL := hL.go hb9
        refine dw_ready [14] (by kernel_rfl) (by simp) ?_
        have l3 := hs3.len
        rw [List.length_append, List.length_singleton] at l3
        obtain ⟨T12, x13, f14, he15, hi10, hc11⟩ := (hF j hOk (by omega) hti hKU hs3 (fun b hb hu => by have := V.lo b hu; have := hB.size; have := hKw.size; omega) hY hUY hJ (by rw [hL0] at hLN; rw [List.append_assoc, ← flK_yes hOk.ne]; exact ((List.prefix_append_right_inj _).2 (flK_le q k (show j + 1 ≤ 16 by omega))).trans hLN) (Nat.le_trans hB0 (Nat.le_trans hKw.size hB.size)))
        refine ar_call 14 41 f14 (#[x13] ++ #[.slice a3 n3 c3, .func (.func 44) #[] #[.pointer (some ⟨gY, 0, none⟩)]]) rfl (fun _ => by kernel_rfl) (fun _ => hi10 _ _ _ _ _ _ _ rfl (by kernel_rfl) (by kernel_rfl)) (R := RB U J Jx (u8) (pre ++ [((Ni.keyP q).1, x)] ++ flK q k j ++ entsF (q ++ [((j : Nat) : Int)]) (k j))) ?_ (fun u w' h => trivial) ?_ ar_nil
        · exact hc11
        rintro _ u9 ⟨b9, rfl, hR9, hX9⟩
        have hBk9 := hB
        refine dt 15 42 (.bool (!b9)) (fun v hv _ => by kernel_rfl) trivial ?_
        refine dt 16 43 (.bool (!b9)) (fun v hv _ => by kernel_rfl) trivial ?_
        refine dw_done (by kernel_rfl) ?_
        refine nw_then ?_
        cases b9 with
        | true =>
          show CW _ _ _ _ _ _ _ [(43, .bool false), (42, .bool false), (41, .bool true), (36, .slice a3 n3 c3), (35, .slice (some ⟨g6, 0, none⟩) 2 2), (34, .slice (some ⟨gI, 0, none⟩) 1 1), (40, .iface T0 v0), (39, .func (.method "pergola/trie.each") #[.iface T0 v0] #[]), (38, .func (.method "pergola/trie.each") #[.iface T0 v0] #[]), (37, .func (.func 44) #[] #[.pointer (some ⟨gY, 0, none⟩)]), (33, .int .u8 ((j : Nat) : Int)), (32, .int .i64 ((j : Nat) : Int)), (31, .slice aq nq cq), (30, .iface T0 v0), (29, .bool true), (28, .bool true), (27, .iface T0 v0), (8, .iface T0 v0), (7, .int .i64 ((j : Nat) : Int)), (26, .iface T0 v0), (25, .int .i64 ((j : Nat) : Int)), (24, .bool true), (23, .int .i64 ((j : Nat) : Int)), (22, .agg (bra vs)), (1, .slice aq nq cq), (2, .func (.func 44) #[] #[.pointer (some ⟨gY, 0, none⟩)])] _
          refine cw_cond_f (fun _ => by kernel_rfl) ?_
          refine cw_skip ?_
          refine nw_block ?_
          refine nw_then ?_
          refine cw_region ?_
          refine rv 44 (.int .i64 (((j : Nat) : Int) + 1)) (fun _ => ol_conv (v := .int .i64 (IntKind.i64.wrap (((j : Nat) : Int) + 1))) (by kernel_rfl) (congrArg (Value.int .i64) (wrap64 (by omega) (by omega)))) ?_
          refine rp 23 (.int .i64 (((j : Nat) : Int) + 1)) ?_
          refine rw_nil ?_
          exact nw_round (E := fun j => [(23, .int .i64 ((j : Nat) : Int)), (22, .agg (bra vs)), (1, .slice aq nq cq), (2, .func (.func 44) #[] #[.pointer (some ⟨gY, 0, none⟩)])]) (R := fun j v => J (pre ++ [((Ni.keyP q).1, x)] ++ flK q k j) v ∧ KpU U w.heap.size w v ∧ j ≤ 16) (μ := fun j => 16 - j) (x := j) (j + 1) (by exact ⟨fun _ => by kernel_rfl, ⟨fun _ => by kernel_rfl, ⟨fun _ => by kernel_rfl, ⟨fun _ => by kernel_rfl, trivial⟩⟩⟩⟩) ⟨by rw [flK_yes hOk.ne, ← List.append_assoc]; exact (hR9 rfl).1, (hKw.trans (KpU.of_below w.heap.size hBk9) (Nat.le_refl _)).trans (hR9 rfl).2 (Nat.le_trans hKw.size hBk9.size), by omega⟩ (by omega)
        | false =>
          show CW _ _ _ _ _ _ _ [(43, .bool true), (42, .bool true), (41, .bool false), (36, .slice a3 n3 c3), (35, .slice (some ⟨g6, 0, none⟩) 2 2), (34, .slice (some ⟨gI, 0, none⟩) 1 1), (40, .iface T0 v0), (39, .func (.method "pergola/trie.each") #[.iface T0 v0] #[]), (38, .func (.method "pergola/trie.each") #[.iface T0 v0] #[]), (37, .func (.func 44) #[] #[.pointer (some ⟨gY, 0, none⟩)]), (33, .int .u8 ((j : Nat) : Int)), (32, .int .i64 ((j : Nat) : Int)), (31, .slice aq nq cq), (30, .iface T0 v0), (29, .bool true), (28, .bool true), (27, .iface T0 v0), (8, .iface T0 v0), (7, .int .i64 ((j : Nat) : Int)), (26, .iface T0 v0), (25, .int .i64 ((j : Nat) : Int)), (24, .bool true), (23, .int .i64 ((j : Nat) : Int)), (22, .agg (bra vs)), (1, .slice aq nq cq), (2, .func (.func 44) #[] #[.pointer (some ⟨gY, 0, none⟩)])] _
          refine cw_cond_t (fun _ => by kernel_rfl) ?_
          refine cw_seq ?_
          refine cw_region ?_
          refine rp 6 (.bool false) ?_
          refine rw_nil ?_
          refine nw_then ?_
          refine cw_ret ?_
          refine nw_ret_block ?_
          refine nw_ret_then ?_
          refine nw_ret_then ?_
          refine nw_ret_block ?_
          refine nw_ret_then ?_
          exact nw_ret_body (.bool false) (fun _ => by kernel_rfl) ⟨_, rfl, false, rfl, (fun e => by cases e), fun _ => hX9 rfl⟩
    obtain rfl : j = 16 := by omega
    show CW _ _ _ _ _ _ _ [(23, .int .i64 16), (22, .agg (bra vs)), (1, .slice aq nq cq), (2, .func (.func 44) #[] #[.pointer (some ⟨gY, 0, none⟩)])] _
    refine cw_seq ?_
    refine cw_region ?_
    refine rp 24 (.bool false) ?_
    refine rw_nil ?_
    refine nw_then ?_
    refine cw_seq ?_
    refine cw_cond_f (fun _ => by kernel_rfl) ?_
    refine cw_exit ?_
    refine nw_exit_then ?_
    refine nw_exit_then ?_
    refine nw_exit_here ?_
    refine nw_then ?_
    refine cw_seq ?_
    refine cw_region ?_
    refine rp 6 (.bool true) ?_
    refine rw_nil ?_
    refine nw_then ?_
    refine cw_ret ?_
    exact nw_ret_body (.bool true) (fun _ => by kernel_rfl) ⟨_, rfl, true, rfl, (fun _ => ⟨by rw [hL0]; exact hJ, hKw⟩), fun e => by cases e⟩
  | false =>
    show CW _ _ _ _ _ _ _ [(20, .bool true), (19, .bool true), (18, .bool false), (17, .slice a n c), (16, .pointer (some ⟨g2, 16, none⟩)), (15, .slice aq nq cq), (14, .func (.func 44) #[] #[.pointer (some ⟨gY, 0, none⟩)]), (13, .bool true), (12, .bool true), (11, .int .i64 n), (10, .slice a n c), (9, .pointer (some ⟨g2, 16, none⟩)), (6, .bool false), (3, .pointer (some ⟨g2, 0, none⟩)), (0, .agg (brc vs (.slice a n c))), (1, .slice aq nq cq), (2, .func (.func 44) #[] #[.pointer (some ⟨gY, 0, none⟩)])] _
    refine cw_cond_t (fun _ => by kernel_rfl) ?_
    refine cw_seq ?_
    refine cw_region ?_
    refine rp 6 (.bool false) ?_
    refine rw_nil ?_
    refine nw_then ?_
    refine cw_ret ?_
    refine nw_ret_then ?_
    exact nw_ret_body (.bool false) (fun _ => by kernel_rfl) ⟨_, rfl, false, rfl, (fun e => by cases e), fun _ => hX8 rfl⟩
theorem ec_all {l B0 : Nat} {Z : PList} {U : Nat → Prop} {J : PList → World → Prop} {Jx : World → Prop} (V : Vis l B0 Z U J Jx) : ∀ t : Tr, EC l B0 Z U J Jx t := by
  intro t
  induction t with
  | no => intro K K' w v a n c B gY q pre hO; exact hO.elim
  | leaf p x =>
    intro K K' w v a n c B gY q pre hO h64 ht hKU hq hKU' hY hUY hJ hN hB0
    obtain ⟨a1, n1, c1, a2, n2, c2, rfl, h1, h2, h3⟩ := ht
    exact ⟨_, _, _, rfl, iv_each_l _, leach_any V h1 h2 h3 hq hY hJ hN hB0 (by have := h1.len; have := hO.2.1; omega)⟩
  | ext p t ih =>
    intro K K' w v a n c B gY q pre hO h64 ht hKU hq hKU' hY hUY hJ hN hB0
    obtain ⟨a1, n1, c1, u, rfl, h1, h2⟩ := ht
    obtain ⟨o1, o2, o3, o4, o5⟩ := hO
    obtain ⟨Tu, xu, rfl⟩ := h2.iface (fun e => by rw [e] at o4; simp [isBr] at o4)
    exact ⟨_, _, _, rfl, iv_each_e _, eeach_any V h1 h2 hKU ih o5 hq hY hJ hN hB0 hUY (by have := h1.len; omega)⟩
  | br k x ih =>
    intro K K' w v a n c B gY q pre hO h64 ht hKU hq hKU' hY hUY hJ hN hB0
    obtain ⟨vs, a1, n1, c1, rfl, h1, h2, h3⟩ := ht
    refine ⟨_, _, _, rfl, iv_each_b _, ?_⟩
    have hO' : ∀ j, k j = no ∨ (1 ≤ B ∧ Tr.Ok (B - 1) (k j)) := fun j => by
      rcases hO.1 j with h | ⟨_, h1, h2⟩
      · exact .inl h
      · exact .inr ⟨h1, h2⟩
    have lx := h2.len
    rcases Nat.eq_zero_or_pos n1 with h | h
    · have hx0 : x = [] := List.eq_nil_of_length_eq_zero (by omega)
      exact beach_z V h1 h2 h3 hKU ih hO' hq hY hJ trivial hB0 hKU' hUY h64 h (by simp [entsF, flK, hx0]) hN
    · have hx0 : x ≠ [] := fun e => by rw [e] at lx; simp at lx; omega
      exact beach_p V h1 h2 h3 hKU ih hO' hq hY hJ trivial hB0 hKU' hUY h64 h (by simp [entsF, flK, hx0]) hN
end Go.Proofs.YtdkpilgelgjieaaGreat
/- A range over a function that hands two values. -/
namespace Go.Proofs.YtdkpilgelgjieaaGreat
open Go.RowKit
open Go.ChangeMaps (setBlock)
set_option linter.unusedVariables false
set_option maxRecDepth 100000
section
variable {r : Option Nat} {m : Nat} {P : Program} {ds : List Deferred} {n : Nat} {Q : Exit → Act → World → Prop} {env : Env} {w w' : World} {ops : Array Oper} {l : List Oper} {o : Oper}
/-- 'for x, y := range seq': every round goes on. -/
theorem cw_range2 {α : Type} {g : Operand} {p q : Tmp} {assign body : Code} (gf : Nat) (lb : Array Value) (hg : ∀ fb, ev env fb g = .func (.func gf) #[] lb) (hm : 1 ≤ m) (hp : p < n) (hq : q < n) (eg : ∀ args w, (callFunc gf args).run P w = .ok (.enter gf args) w)
    {enc enc' : α → Value} {Kp : World → World → Prop} {S Sp : List α → Prop} {N : Nat} {w0 : World} (hseq : SeqStopsK Fence.wide (m - 1) P gf lb (fun x => #[enc x, enc' x]) Kp S Sp N w0)
    (hKt : ∀ {A B C : World}, Kp A B → Kp B C → Kp A C) (hKb : ∀ (W : World) (l : Nat) (o o' : Obj), w.heap.size ≤ l → W.heap[l]? = some o → o.isCells = false → o.isWalk = false → Kp W (W.putObj l o')) (hb0 : Below w0.heap.size w0 w)
    (I : List α → World → Prop) (hI : OwnFrom w.heap.size I) (h0 : I [] w) (Ax : α → Env → World → Prop) (hAx : ∀ x e, OwnFrom w.heap.size (fun (_ : Unit) W => Ax x e W))
    (hassign : ∀ (l : Nat) (pre : List α) (x : α) (W : World), I pre W → CW (some l) (m - 1 - 1) P [] n (Exit.then (fun a' W' => KeepsFrom w.heap.size W W' ∧ Kp W W' ∧ I pre W' ∧ ∃ e, Frm [] n e a' ∧ Ax x e W') (fun _ _ _ => False)) assign ((q, enc' x) :: (p, enc x) :: env) W)
    (hbody : ∀ (l : Nat) (pre : List α) (x : α) (e : Env) (W : World), w.heap.size ≤ l → I pre W → Ax x e W → pre.length < N → CW (some l) (m - 1 - 1) P [] n (ownPostG w.heap.size Kp I (fun _ _ _ => False) (pre ++ [x]) W) body e W)
    (hdone : ∀ (D : Nat) (xs : List α) (W : World), w.heap.size ≤ D → S xs → I xs W → W.heap[D]? = some (.deferred (some [])) → NW [{ target := .collected D, args := #[] }] n Q .normal env W) :
    CW none m P [] n Q (.rangeFunc g #[p, q] assign body) env w := fun a ha => by
  refine wpIn_rangeFunc_ownH (F := Fence.wide) rfl hm (by rw [ha.ev]; exact hg _) trivial eg hseq hKt hKb hb0 (fun x => rfl) I (fun _ _ _ => False) hI (fun _ _ _ _ _ hs _ _ => hs) h0 (fun x a' W => ∃ e, Frm [] n e a' ∧ Ax x e W)
    (fun x a' => fun _ W W' row hs hgr hr => by obtain ⟨e, hF, hA⟩ := hs; exact ⟨e, hF, hAx x e () W W' row hA hgr hr⟩) ?_ ?_ ?_ (fun D c pre W _ _ hx _ => hx.elim)
  · intro l pre x W K hi hK
    have hfr : Frm [] n ((q, enc' x) :: (p, enc x) :: env) { tmps := ((#[p, q] : Array Tmp).zip #[enc x, enc' x]).foldl (fun t (p, v) => t.setIfInBounds p v) a.tmps, defers := [] } := by
      have := fr_put (fr_put (⟨rfl, ha.sz, ha.get⟩ : Frm [] n env { tmps := a.tmps, defers := [] }) hp (enc x)) hq (enc' x)
      have e : ((#[p, q] : Array Tmp).zip #[enc x, enc' x]).foldl (fun t (p, v) => t.setIfInBounds p v) a.tmps = (a.tmps.setIfInBounds p (enc x)).setIfInBounds q (enc' x) := by simp
      rw [e]
      exact this
    refine wpIn_mono (hassign l pre x W hi _ hfr) ?_
    intro e a' W' hq
    cases e with
    | normal => exact hK a' W' hq.1 hq.2.1 hq.2.2.1 hq.2.2.2
    | exit id => exact hq
    | goto l => exact hq
    | ret => exact hq
    | panic ch => exact hq
    | outgrown => exact hq
  · rintro l pre x a' W hl _ hi ⟨e, hF, hA⟩ hlen
    exact hbody l pre x e W hl hi hA hlen a' hF
  · intro D xs W hD hs hi hd
    refine hdone D xs W hD hs hi hd _ ⟨?_, ha.sz, ha.get⟩
    show _ :: a.defers = _
    rw [ha.df]
end
end Go.Proofs.YtdkpilgelgjieaaGreat
/- A range over all keys of a trie; how many there are. -/
namespace Go.Proofs.YtdkpilgelgjieaaGreat
open Go.RowKit
open Tr
set_option linter.unusedVariables false
set_option maxRecDepth 100000
theorem KpU.any {U : Nat → Prop} {A B : World} (h : KpU U A.heap.size A B) (M : Nat) : KpU U M A B := ⟨h.size, fun k cs T fr _ hU hh => h.keep k cs T fr (lt_of_get hh) hU hh⟩
theorem yield_mono {m lp : Nat} {args : Array Value} {W : World} {R R' : Ending → World → Prop} (h : YieldAt Fence.wide m Tryz.prog lp args W R) (hr : ∀ e w, R e w → R' e w) : YieldAt Fence.wide m Tryz.prog lp args W R' := by
  obtain ⟨fn, tmps, assign, body, hy, hR⟩ := h
  exact ⟨fn, tmps, assign, body, hy, RoundIn.mono hR hr⟩
theorem grown_none {a b : World} (h : Below a.heap.size a b) : a.grownBy b none := ⟨h.os, h.tape, h.output, h.size, fun k hk _ => h.block k hk⟩
set_option maxHeartbeats 1000000 in
theorem all_any {w : World} {g : Nat} :
    Calls Tryz.prog 21 #[.pointer (some ⟨g, 0, none⟩)] w fun e w' => ∃ u, e = .returned u ∧ (fun u w' => (∃ gB, u = .func (.func 43) #[] #[.pointer (some ⟨gB, 0, none⟩)] ∧ Rw gB w' #[.pointer (some ⟨g, 0, none⟩)] 42 ∧ w.heap.size ≤ gB) ∧ Bl w w') u w' := by
  have hB := Bl.refl w
  refine cw_enter Tryz.func21 rfl 4 rfl ?_
  show CW _ _ _ _ _ _ _ [(0, .pointer (some ⟨g, 0, none⟩))] _
  refine cw_seq ?_
  refine cw_region ?_
  refine rw_new 1 (#[.pointer (some ⟨g, 0, none⟩)]) 42 (fun _ => by kernel_rfl) (fun _ => by kernel_rfl) ?_
  intro w1 g2 hn3
  replace hB := hB.go hn3.below
  have hr4 : Rw g2 w1 (#[.pointer (some ⟨g, 0, none⟩)]) 42 := hn3.row
  refine rp 2 (.nilFunc) ?_
  refine rw_nil ?_
  refine nw_then ?_
  refine cw_seq ?_
  refine cw_region ?_
  refine rp 3 (.func (.func 43) #[] #[.pointer (some ⟨g2, 0, none⟩)]) ?_
  refine rp 2 (.func (.func 43) #[] #[.pointer (some ⟨g2, 0, none⟩)]) ?_
  refine rw_nil ?_
  refine nw_then ?_
  refine cw_ret ?_
  exact nw_ret_body (.func (.func 43) #[] #[.pointer (some ⟨g2, 0, none⟩)]) (fun _ => by kernel_rfl) ⟨_, rfl, ⟨g2, rfl, hr4, by rw [hn3.hg]; exact Nat.le_refl _⟩, hB⟩
set_option maxHeartbeats 1000000 in
theorem all1_no {l B0 : Nat} {Z : PList} {U : Nat → Prop} {J : PList → World → Prop} {Jx : World → Prop} (V : Vis l B0 Z U J Jx) {w : World} {g gB : Nat} (hgB : Rw gB w #[.pointer (some ⟨g, 0, none⟩)] 42) (hr : Rw g w #[.nilIface] 72) (hJ : J [] w) (hB0 : B0 ≤ w.heap.size)  :
    Calls Tryz.prog 43 #[.func (.yield l) #[] #[], .pointer (some ⟨gB, 0, none⟩)] w fun e w' => ∃ u, e = .returned u ∧ (fun u w' => J [] w' ∨ Jx w') u w' := by
  have hB := Bl.refl w
  refine cw_enter Tryz.func43 rfl 14 rfl ?_
  show CW _ _ _ _ _ _ _ [(0, .func (.yield l) #[] #[]), (1, .pointer (some ⟨gB, 0, none⟩))] _
  refine cw_seq ?_
  refine cw_region ?_
  refine rw_new 2 (#[.func (.yield l) #[] #[]]) 56 (fun _ => by kernel_rfl) (fun _ => by kernel_rfl) ?_
  intro w1 g2 hn3
  replace hB := hB.go hn3.below
  replace hgB := hgB.go hn3.below
  replace hr := hr.go hn3.below
  replace hJ := V.go hJ hn3.below
  have hr4 : Rw g2 w1 (#[.func (.yield l) #[] #[]]) 56 := hn3.row
  refine rw_nil ?_
  have hgY := hn3.hg
  refine nw_then ?_
  refine cw_seq ?_
  refine cw_seq ?_
  refine cw_region ?_
  refine rv 3 (.pointer (some ⟨g, 0, none⟩)) (fun _ => ol_cell 42 _ ⟨gB, 0, none⟩ _ _ rfl (by kernel_rfl) (by rw [cell_of_row _ _ _ _ _ _ hgB]; rfl) Tryz.underlying42 rfl) ?_
  refine rp 4 (.pointer (some ⟨g, 0, none⟩)) ?_
  refine rp 5 (.pointer (some ⟨g, 0, none⟩)) ?_
  refine rv 6 (.nilIface) (fun _ => ol_cell 70 _ ⟨g, 0, none⟩ _ _ rfl (by kernel_rfl) (by rw [cell_of_row _ _ _ _ _ _ hr]; rfl) Tryz.underlying70 rfl) ?_
  refine rp 7 (.bool true) ?_
  refine rw_nil ?_
  refine nw_then ?_
  refine cw_cond_t (fun _ => by kernel_rfl) ?_
  refine cw_ret ?_
  refine nw_ret_then ?_
  exact nw_ret_body (.tuple #[]) (fun _ => by kernel_rfl) ⟨_, rfl, .inl hJ⟩
set_option maxHeartbeats 1000000 in
theorem all1_yes {l B0 : Nat} {Z : PList} {U : Nat → Prop} {J : PList → World → Prop} {Jx : World → Prop} (V : Vis l B0 Z U J Jx) {T0 : TypeId} {v0 : Value} {w : World} {g gB : Nat} (hgB : Rw gB w #[.pointer (some ⟨g, 0, none⟩)] 42) (hr : Rw g w #[.iface T0 v0] 72) (hJ : J [] w) (hB0 : B0 ≤ w.heap.size) {K : Nat → Prop} {t : Tr} (ht : TA K w t (.iface T0 v0)) (hO : Tr.Ok 64 t) (hKU : ∀ b, K b → ¬ U b) (hN : ([] ++ entsF [] t) <+: Z) :
    Calls Tryz.prog 43 #[.func (.yield l) #[] #[], .pointer (some ⟨gB, 0, none⟩)] w fun e w' => ∃ u, e = .returned u ∧ (fun u w' => J (entsF [] t) w' ∨ Jx w') u w' := by
  have hB := Bl.refl w
  refine cw_enter Tryz.func43 rfl 14 rfl ?_
  show CW _ _ _ _ _ _ _ [(0, .func (.yield l) #[] #[]), (1, .pointer (some ⟨gB, 0, none⟩))] _
  refine cw_seq ?_
  refine cw_region ?_
  refine rw_new 2 (#[.func (.yield l) #[] #[]]) 56 (fun _ => by kernel_rfl) (fun _ => by kernel_rfl) ?_
  intro w1 g2 hn3
  replace hB := hB.go hn3.below
  replace hgB := hgB.go hn3.below
  replace hr := hr.go hn3.below
  replace hJ := V.go hJ hn3.below
  replace ht := ht.go hn3.below
  have hr4 : Rw g2 w1 (#[.func (.yield l) #[] #[]]) 56 := hn3.row
  refine rw_nil ?_
  have hgY := hn3.hg
  refine nw_then ?_
  refine cw_seq ?_
  refine cw_seq ?_
  refine cw_region ?_
  refine rv 3 (.pointer (some ⟨g, 0, none⟩)) (fun _ => ol_cell 42 _ ⟨gB, 0, none⟩ _ _ rfl (by kernel_rfl) (by rw [cell_of_row _ _ _ _ _ _ hgB]; rfl) Tryz.underlying42 rfl) ?_
  refine rp 4 (.pointer (some ⟨g, 0, none⟩)) ?_
  refine rp 5 (.pointer (some ⟨g, 0, none⟩)) ?_
  refine rv 6 (.iface T0 v0) (fun _ => ol_cell 70 _ ⟨g, 0, none⟩ _ _ rfl (by kernel_rfl) (by rw [cell_of_row _ _ _ _ _ _ hr]; rfl) Tryz.underlying70 rfl) ?_
  refine rp 7 (.bool false) ?_
  refine rw_nil ?_
  refine nw_then ?_
  refine cw_cond_f (fun _ => by kernel_rfl) ?_
  refine cw_skip ?_
  refine nw_then ?_
  refine cw_region ?_
  refine rv 8 (.pointer (some ⟨g, 0, none⟩)) (fun _ => ol_cell 42 _ ⟨gB, 0, none⟩ _ _ rfl (by kernel_rfl) (by rw [cell_of_row _ _ _ _ _ _ hgB]; rfl) Tryz.underlying42 rfl) ?_
  refine rp 9 (.pointer (some ⟨g, 0, none⟩)) ?_
  refine rp 10 (.pointer (some ⟨g, 0, none⟩)) ?_
  refine rv 11 (.iface T0 v0) (fun _ => ol_cell 70 _ ⟨g, 0, none⟩ _ _ rfl (by kernel_rfl) (by rw [cell_of_row _ _ _ _ _ _ hr]; rfl) Tryz.underlying70 rfl) ?_
  refine rp 12 (.func (.func 44) #[] #[.pointer (some ⟨g2, 0, none⟩)]) ?_
  obtain ⟨T7, x8, f9, he10, hi5, hc6⟩ := (ec_all V t hO (by omega) ht hKU (Sk.nil (fun _ => False) _) (fun b hb => hb.elim) hr4 (fun hu => by have := V.lo _ hu; omega) hJ hN (Nat.le_trans hB0 hB.size))
  refine rw_call 13 f9 (#[x8] ++ #[.slice none 0 0, .func (.func 44) #[] #[.pointer (some ⟨g2, 0, none⟩)]]) (fun _ => by kernel_rfl) (fun _ => hi5 _ _ _ _ _ _ _ rfl (by kernel_rfl) (by kernel_rfl)) (R := RB U J Jx (w1) ([] ++ entsF [] t)) ?_ ?_
  · exact hc6
  rintro _ u8 ⟨b8, rfl, hR8, hX8⟩
  refine rw_nil ?_
  cases b8 with
  | true => exact nw_end_body (.tuple #[]) (fun _ => by kernel_rfl) ⟨_, rfl, .inl (hR8 rfl).1⟩
  | false => exact nw_end_body (.tuple #[]) (fun _ => by kernel_rfl) ⟨_, rfl, .inr (hX8 rfl)⟩
theorem all1_any {l B0 : Nat} {Z : PList} {U : Nat → Prop} {J : PList → World → Prop} {Jx : World → Prop} (V : Vis l B0 Z U J Jx) {w : World} {g gB : Nat} (hgB : Rw gB w #[.pointer (some ⟨g, 0, none⟩)] 42) (hJ : J [] w) (hB0 : B0 ≤ w.heap.size) {K : Nat → Prop} {t : Tr} {v : Value} (hr : Rw g w #[v] 72) (ht : TA K w t v) (hok : t = no ∨ Tr.Ok 64 t) (hKU : ∀ b, K b → ¬ U b) (hN : entsF [] t <+: Z) :
    Calls Tryz.prog 43 #[.func (.yield l) #[] #[], .pointer (some ⟨gB, 0, none⟩)] w fun e w' => ∃ u, e = .returned u ∧ (J (entsF [] t) w' ∨ Jx w') := by
  rcases hok with rfl | hO
  · rw [show v = .nilIface from ht] at hr
    exact all1_no V hgB hr hJ hB0
  · obtain ⟨T0, v0, rfl⟩ := ht.iface hO.ne
    exact all1_yes V hgB hr hJ hB0 ht hO hKU hN
def KpR (U : Nat → Prop) (A B : World) : Prop := KpU U A.heap.size A B
theorem kpR_t {U : Nat → Prop} {A B C : World} (h : KpR U A B) (g : KpR U B C) : KpR U A C := KpU.trans h g h.size
theorem kpR_b {U : Nat → Prop} {N : Nat} (W : World) (l : Nat) (o o' : Obj) (_ : N ≤ l) (hl : W.heap[l]? = some o) (ho : o.isCells = false) (_ : o.isWalk = false) : KpR U W (W.putObj l o') := ⟨by simp, fun k cs T fr _ _ hh => (World.putObj_heap_other (fun e => by subst e; rw [hh] at hl; cases hl; cases ho)).trans hh⟩
/-- The range over all keys, told as the library tells one: two values each time. -/
theorem all_stops {w : World} {U : Nat → Prop} (hU : ∀ b, U b → b < w.heap.size) {g gB : Nat} (hgB : Rw gB w #[.pointer (some ⟨g, 0, none⟩)] 42) {K : Nat → Prop} {t : Tr} {v : Value} (hr : Rw g w #[v] 72) (ht : TA K w t v) (hok : t = no ∨ Tr.Ok 64 t) (hKU : ∀ b, K b → ¬ U b) (m : Nat) :
    SeqStopsK Fence.wide m Tryz.prog 43 #[.pointer (some ⟨gB, 0, none⟩)] (fun x : Value × Value => #[x.1, x.2]) (KpR U) (fun xs => xs.length = (entsF [] t).length) (fun _ => True) (entsF [] t).length w := by
  intro l J Jx W hb hJ hJx hy h0
  have V : Vis l W.heap.size (entsF [] t) U (fun pre W1 => ∃ vs : List (Value × Value), vs.length = pre.length ∧ J vs W1) (fun W1 => ∃ vs, Jx vs W1) := by
    refine ⟨?_, ?_, fun b hu => Nat.lt_of_lt_of_le (hU b hu) hb.size, ?_⟩
    · rintro pre A B ⟨vs, h1, h2⟩ hAB
      exact ⟨vs, h1, hJ vs A B none h2 (grown_none hAB) (fun r e => by cases e)⟩
    · rintro A B ⟨vs, h2⟩ hAB
      exact ⟨vs, hJx vs A B none h2 (grown_none hAB) (fun r e => by cases e)⟩
    · rintro pre W1 M a a' n c n' c' k x ⟨vs, h1, h2⟩ hN _ _ _ _
      refine yield_any (yield_mono (hy vs (.slice a n c, .slice a' n' c') W1 h2 (by have := hN.length_le; simp only [List.length_append, List.length_singleton] at this; omega)) ?_)
      rintro e W' (⟨rfl, h3, h4⟩ | ⟨rfl, h3⟩)
      · exact .inl ⟨rfl, ⟨_, by simp [h1], h3⟩, KpU.any h4 M⟩
      · exact .inr ⟨rfl, _, h3⟩
  refine callsIn_wide.2 ?_
  refine (all1_any V (hgB.go hb) ⟨[], rfl, h0⟩ (Nat.le_refl _) (hr.go hb) (ht.go hb) hok hKU List.prefix_rfl).mono ?_
  rintro e W' ⟨u, rfl, (⟨vs, h1, h2⟩ | ⟨vs, h2⟩)⟩
  · exact ⟨⟨u, rfl⟩, .inl ⟨vs, h1, h2⟩⟩
  · exact ⟨⟨u, rfl⟩, .inr ⟨vs, trivial, h2⟩⟩
/-- The count so far. -/
def Cnt (w : World) (gN : Nat) (xs : List (Value × Value)) (W : World) : Prop := Rw gN W #[.int .i64 ((xs.length : Nat) : Int)] 3 ∧ Bl w W
theorem cnt_own {w : World} {gN : Nat} (B : Nat) (hB : w.heap.size ≤ B) : OwnFrom B (Cnt w gN) := fun s X Y row hs hg hrow => by
  obtain ⟨h1, hb⟩ := hs
  refine ⟨(hg.block gN (lt_of_get h1) (fun e' => ?_)).trans h1, Below.grown hb hg hb.size (fun k e => Nat.le_trans hB (hrow k e).1)⟩
  obtain ⟨o, ho, hc⟩ := (hrow gN e'.symm).2
  unfold Rw at h1
  rw [h1] at ho; cases ho; cases hc
set_option maxHeartbeats 4000000 in
theorem len_yes {K : Nat → Prop} {w : World} {g : Nat} {t : Tr} {v : Value} (hr : Rw g w #[v] 72) (ht : TA K w t v) (hok : t = no ∨ Tr.Ok 64 t) (hN : (entsF [] t).length ≤ 4611686018427387904) :
    Calls Tryz.prog 20 #[.pointer (some ⟨g, 0, none⟩)] w fun e w' => ∃ u, e = .returned u ∧ (fun u w' => u = .int .i64 (((entsF [] t).length : Nat) : Int) ∧ Bl w w') u w' := by
  have hB := Bl.refl w
  replace ht := ht.old
  refine cw_enterM Tryz.func20 rfl 11 rfl ?_
  show CW _ _ _ _ _ _ _ [(0, .pointer (some ⟨g, 0, none⟩))] _
  refine cw_seq ?_
  refine cw_region ?_
  refine rp 2 (.int .i64 0) ?_
  refine rw_nil ?_
  refine nw_then ?_
  refine cw_seq ?_
  refine cw_region ?_
  refine rw_new 3 #[.int .i64 0] 3 (fun _ => by kernel_rfl) (fun _ => by kernel_rfl) ?_
  intro wA gN hnA
  refine rw_set1 gN 0 (.int .i64 0) (fun _ => by kernel_rfl) (fun _ => ol_setC 3 _ _ gN 0 #[.int .i64 0] 3 _ hnA.row rfl (by kernel_rfl) (by kernel_rfl) (by decide) rfl rfl (by kernel_rfl)) ?_
  intro wC hsC
  have hgN := hnA.hg
  have hC : Rw gN wC #[.int .i64 0] 3 := (show Rw gN wA #[.int .i64 0] 3 from hnA.row).set hsC rfl
  have hBC : Bl w wC := hsC.touch.below hnA.below (by omega) (by have := hnA.size; omega)
  replace hr := hr.go hBC
  replace ht := ht.go hBC
  replace hB := hBC
  refine rw_nil ?_
  refine nw_then ?_
  refine cw_seq ?_
  refine cw_seq ?_
  refine cw_region ?_
  refine rp 4 (.pointer (some ⟨g, 0, none⟩)) ?_
  refine rw_call 5 21 #[.pointer (some ⟨g, 0, none⟩)] (fun _ => by kernel_rfl) (fun _ => by kernel_rfl) (R := fun u w' => (∃ gB, u = .func (.func 43) #[] #[.pointer (some ⟨gB, 0, none⟩)] ∧ Rw gB w' #[.pointer (some ⟨g, 0, none⟩)] 42 ∧ wC.heap.size ≤ gB) ∧ Bl wC w') (all_any) ?_
  rintro _ w2 ⟨⟨gB, rfl, hgB, hgB2⟩, hb2⟩
  replace hB := hB.go hb2
  replace hr := hr.go hb2
  replace ht := ht.go hb2
  replace hC := hC.go hb2
  refine rw_nil ?_
  refine nw_then ?_
  refine cw_block ?_
  refine cw_sub [(3, .pointer (some ⟨gN, 0, none⟩)), (5, .func (.func 43) #[] #[.pointer (some ⟨gB, 0, none⟩)])] (by exact ⟨fun _ => by kernel_rfl, ⟨fun _ => by kernel_rfl, trivial⟩⟩) ?_
  have hgl := lt_of_get hC
  refine cw_range2 (α := Value × Value) (enc := fun x => x.1) (enc' := fun x => x.2) 43 #[.pointer (some ⟨gB, 0, none⟩)] (fun _ => by kernel_rfl) (by decide) (by decide) (by decide) (fun args w => by kernel_rfl) (all_stops (U := fun b => b = gN) (fun b hb => by subst hb; exact hgl) hgB hr ht hok (fun b hb hu => by subst hu; omega) 19) kpR_t kpR_b (Below.refl _ _) (Cnt w gN) (cnt_own _ hB.size) ⟨hC, hB⟩ (fun x e W => e = [(3, .pointer (some ⟨gN, 0, none⟩))]) (fun x e _ X Y row h _ _ => h) ?_ ?_ ?_
  · rintro lp pre x W hI
    refine cw_skip ?_
    exact fun a ha => ⟨KeepsFrom.refl _ _, ⟨Nat.le_refl _, fun k cs T fr _ _ hh => hh⟩, hI, _, ha.sub (env' := [(3, .pointer (some ⟨gN, 0, none⟩))]) (by exact ⟨fun _ => by kernel_rfl, trivial⟩), rfl⟩
  · rintro lp pre x e W hlp hI rfl hlen
    obtain ⟨h1, hb⟩ := hI
    refine cw_block ?_
    refine cw_region ?_
    refine rv 8 (.int .i64 ((pre.length : Nat) : Int)) (fun _ => ol_cell 3 _ ⟨gN, 0, none⟩ _ _ rfl (by kernel_rfl) (by rw [cell_of_row _ _ _ _ _ _ h1]; rfl) Tryz.underlying3 rfl) ?_
    refine rv 9 (.int .i64 ((pre.length + 1 : Nat) : Int)) (fun _ => ol_conv (v := .int .i64 (IntKind.i64.wrap (((pre.length : Nat) : Int) + 1))) (by kernel_rfl) (congrArg (Value.int .i64) (by rw [wrap64 (by omega) (by omega)]; omega))) ?_
    refine rw_set1 gN 0 (.int .i64 ((pre.length + 1 : Nat) : Int)) (fun _ => by kernel_rfl) (fun _ => ol_setC 3 _ _ gN 0 _ 3 _ h1 rfl (by kernel_rfl) (by kernel_rfl) (by show 0 < 1; omega) rfl rfl (by kernel_rfl)) ?_
    intro W3 hs3
    refine rw_nil ?_
    refine nw_block ?_
    refine nw_own ⟨by rw [hs3.size]; exact Nat.le_refl _, fun k o hk ho hc => (hs3.other (fun e => by subst e; omega)).trans ho⟩ ⟨by rw [hs3.size]; exact Nat.le_refl _, fun k cs T fr _ hU hh => (hs3.other hU).trans hh⟩ ⟨?_, hs3.touch.below hb (by omega) hb.size⟩
    rw [List.length_append, List.length_singleton]; exact h1.set hs3 rfl
  intro D xs W hD hS hI hdd
  obtain ⟨h1, hb⟩ := hI
  rw [hS] at h1
  refine nw_block ?_
  refine nw_then ?_
  refine cw_seq ?_
  refine cw_region ?_
  refine rv 10 (.int .i64 (((entsF [] t).length : Nat) : Int)) (fun _ => ol_cell 3 _ ⟨gN, 0, none⟩ _ _ rfl (by kernel_rfl) (by rw [cell_of_row _ _ _ _ _ _ h1]; rfl) Tryz.underlying3 rfl) ?_
  refine rp 2 (.int .i64 (((entsF [] t).length : Nat) : Int)) ?_
  refine rw_nil ?_
  refine nw_then ?_
  refine cw_ret ?_
  exact nw_ret_marks hdd (.int .i64 (((entsF [] t).length : Nat) : Int)) (fun _ => by kernel_rfl) ⟨_, rfl, rfl, Below.grown hb (grownBy_putObj' _ _ _) hb.size (fun k e => by cases e; exact Nat.le_trans hB.size hD)⟩
theorem len_any {K : Nat → Prop} {w : World} {g : Nat} {t : Tr} (h : Tri K w g t) (hN : (entsF [] t).length ≤ 4611686018427387904) :
    Calls Tryz.prog 20 #[.pointer (some ⟨g, 0, none⟩)] w fun e w' => ∃ u, e = .returned u ∧ u = .int .i64 (((entsF [] t).length : Nat) : Int) ∧ Bl w w' := by
  obtain ⟨⟨v, h1, h2⟩, h3⟩ := h
  exact len_yes h1 h2 h3 hN
end Go.Proofs.YtdkpilgelgjieaaGreat
/- A Put and a Delete take each other back. -/
namespace Go.Proofs.YtdkpilgelgjieaaGreat
set_option linter.unusedVariables false
namespace Tr
end Tr
end Go.Proofs.YtdkpilgelgjieaaGreat

/- What Common answers. -/
import Derived.Test.YtdkpilgelgjieaaGreatG02
import Derived.Test.YtdkpilgelgjieaaGreatG03
import Derived.Test.YtdkpilgelgjieaaGreatG01
namespace Go.Proofs.YtdkpilgelgjieaaGreat.Ni
open Go.RowKit
set_option linter.unusedVariables false
set_option maxHeartbeats 1000000 in
theorem common_any (a1 a2 : Option Addr) (n1 c1 n2 c2 : Nat) (p q : List Int) (w : World) (h1 : Ag w a1 n1 c1 p) (h2 : Ag w a2 n2 c2 q) (hn1 : n1 ≤ 140737488355328) (hn2 : n2 ≤ 140737488355328) :
    Calls Tryz.prog 29 #[.slice a1 n1 c1, .slice a2 n2 c2] w fun e w' => e = .returned (.int .i64 (com p q : Nat)) ∧ Below w.heap.size w w' := by
  have HL1 := Hid.mk h1.l
  have HL2 := Hid.mk h2.l
  have HC1 := Hid.mk (fun h => ag_head h1 h)
  have HC2 := Hid.mk (fun h => ag_head h2 h)
  clear h1 h2
  obtain ⟨res, hres⟩ : ∃ r, com p q = r := ⟨_, rfl⟩
  rw [hres]
  have HRES := Hid.mk hres
  clear hres
  go_enter Tryz.func29, Tryz.ntmps29
  go_wp2_with fail
  go_loopw [5] (fun i v => ∃ j : Nat, j ≤ n1 ∧ j ≤ n2 ∧ i = .int .i64 j ∧ p.take j = q.take j ∧ Below w.heap.size w v) (fun i _ => n1 - (intOf i).toNat)
  case atStart => exact ⟨0, by omega, by omega, rfl, rfl, Below.refl _ _⟩
  case round =>
    obtain ⟨j, hj1, hj2, rfl, htk, hb⟩ := hrel
    have HTK := Hid.mk htk
    have HBW := Hid.mk hb
    clear htk hb
    have HD : Hid ((j = p.length ∨ j = q.length ∨ p.getD j 0 ≠ q.getD j 0) → res = j) := Hid.mk (fun h => HRES.out.symm.trans (com_char p q j (by have := HL1.out; omega) (by have := HL2.out; omega) HTK.out h))
    by_cases hlt1 : j < n1
    case neg =>
      have hji : ¬ (j : Int) < n1 := by omega
      have e := HD.out (.inl (by have := HL1.out; omega))
      subst e
      go_wp2_with fail
      go_region
      all_goals
        go_wp2_with fail
        go_ret
        exact ⟨rfl, HBW.out.drew⟩
    have hji1 : (j : Int) < n1 := by omega
    by_cases hlt2 : j < n2
    case neg =>
      have hji : ¬ (j : Int) < n2 := by omega
      have e := HD.out (.inr (.inl (by have := HL2.out; omega)))
      subst e
      go_wp2_with fail
      go_region
      all_goals
        go_wp2_with fail
        go_ret
        exact ⟨rfl, HBW.out.drew⟩
    have hji2 : (j : Int) < n2 := by omega
    obtain ⟨g1, o1, rfl, hnc1, hcm1, hcs1⟩ := HC1.out (by omega)
    obtain ⟨g2, o2, rfl, hnc2, hcm2, hcs2⟩ := HC2.out (by omega)
    unfold maxLen at hcm1 hcm2
    have hcell1 := (HBW.out.cell (p := ⟨g1, o1 + j, none⟩) (block_lt_of_cell (hcs1 j hlt1))).trans (hcs1 j hlt1)
    have hcell2 := (HBW.out.cell (p := ⟨g2, o2 + j, none⟩) (block_lt_of_cell (hcs2 j hlt2))).trans (hcs2 j hlt2)
    have HT1 := Hid.mk (take_snoc (b := p) (i := j) (by have := HL1.out; omega))
    have HT2 := Hid.mk (take_snoc (b := q) (i := j) (by have := HL2.out; omega))
    generalize p.getD j 0 = x at *
    generalize q.getD j 0 = y at *
    clear hcs1 hcs2
    by_cases hxy : x = y
    · subst hxy
      have hq : (x == x) = true := by simp
      go_wp2_with fail
      go_region
      all_goals
        go_wp2_with fail
        exact ⟨⟨j + 1, by omega, by omega, by simp, by rw [HT1.out, HT2.out, HTK.out], HBW.out.drew⟩, by simp [intOf]; omega⟩
    · have e := HD.out (.inr (.inr hxy))
      subst e
      have hq : (x == y) = false := by simpa using hxy
      clear hxy
      go_wp2_with fail
      go_region
      all_goals
        go_wp2_with fail
        go_ret
        exact ⟨rfl, HBW.out.drew⟩
end Go.Proofs.YtdkpilgelgjieaaGreat.Ni
/- What is found in a tree. -/
namespace Go.Proofs.YtdkpilgelgjieaaGreat
open Go.RowKit
open Tr
set_option linter.unusedVariables false
set_option maxRecDepth 100000
theorem ol_indexK {P : Program} {ρ : Operand → Value} {w : World} {o : Oper} {kd : IntKind} (T : TypeId) (x y : Operand) (g off j len sz : Nat) (E : TypeId) (ho : o.op = .indexAddr T x y) (hx : ρ x = .pointer (some ⟨g, off, none⟩)) (hy : ρ y = .int kd j) (hj : j < len) (h2 : 1 < len) (hu : P.underlying T = some (.array len E)) (hi : (P.info? E).map (·.size) = some sz) :
    (execOp ρ o).run P w = .ok (.value (.pointer (some ⟨g, off + j * sz, none⟩))) w := by
  have hs : (sizeOf E).run P w = .ok sz w := by
    cases hq : P.info? E with
    | none => simp [hq] at hi
    | some z => simp [hq] at hi; simp [sizeOf, typeInfo, hq, hi]
  unfold execOp
  rw [ho]
  simp only [hx, hy]
  have he : (if j * sz = 0 then (⟨g, off, none⟩ : Addr) else ⟨g, off + j * sz, none⟩) = ⟨g, off + j * sz, none⟩ := by split <;> simp_all
  simp [Instr.indexAt, Instr.sureAddr, asIntOf, run_underlying hu, hs, hj, Result.andThen, Addr.add, he]
theorem Sk.head {K : Nat → Prop} {w : World} {a : Option Addr} {n c : Nat} {i : Int} {r : List Int} (h : Sk K w a n c (i :: r)) : ∃ g o, a = some ⟨g, o, none⟩ ∧ w.cell? ⟨g, o + 0 * 1, none⟩ = some (.int .u8 i) ∧ 0 < n := by
  have hl := h.len
  rw [List.length_cons] at hl
  rcases h.ag.i with ⟨h1, h2⟩ | ⟨gb, off, h1, h2, h3, h4, h5, h7⟩
  · omega
  · exact ⟨gb, off, h1, by rw [show off + 0 * 1 = off + 0 from by omega, h7 0 (by simp)]; rfl, h3⟩
/-- The kids of a branch in memory. -/
def TK (K : Nat → Prop) (w : World) (k : Nat → Tr) (vs : Nat → Value) : Prop := ∀ i, i < 16 → TA K w (k i) (vs i)
theorem TK.go {K : Nat → Prop} {w w' : World} {k : Nat → Tr} {vs : Nat → Value} (h : TK K w k vs) (hb : Below w.heap.size w w') : TK K w' k vs := fun i hi => (h i hi).go hb
theorem TK.drew {K : Nat → Prop} {w : World} {k : Nat → Tr} {vs : Nat → Value} (h : TK K w k vs) : TK K w.drew k vs := fun i hi => (h i hi).drew
/-- A box, and a cell. -/
structure Sx (g : Nat) (cells : Array Value) (T : TypeId) (p : Addr) (x : Value) (w : World) : Prop where
  r : Rw g w cells T
  c : w.cell? p = some x
theorem Sx.go {g : Nat} {cells : Array Value} {T : TypeId} {p : Addr} {x : Value} {w w' : World} (h : Sx g cells T p x w) (hb : Below w.heap.size w w') : Sx g cells T p x w' := ⟨h.r.go hb, (hb.cell (p := p) (block_lt_of_cell h.c)).trans h.c⟩
theorem Sx.drew {g : Nat} {cells : Array Value} {T : TypeId} {p : Addr} {x : Value} {w : World} (h : Sx g cells T p x w) : Sx g cells T p x w.drew := h.go (Below.refl _ _).drew
/-- What is told: a slice; a tree. -/
def RS (K : Nat → Prop) (w : World) (x : List Int) : Value → World → Prop := fun u w' => (∃ a n c, u = .slice a n c ∧ Sk K w' a n c x) ∧ Bl w w'
def TRs (K : Nat → Prop) (w : World) (t : Tr) : Value → World → Prop := fun u w' => TA K w' t u ∧ Bl w w'
def FS (t : Tr) : Prop := ∀ {K : Nat → Prop} {w : World} {v : Value} {a : Option Addr} {n c : Nat} {q : List Int} {B : Nat}, Ok B t → TA K w t v → Sk K w a n c q → Nb q → MC "pergola/trie.find" v #[.slice a n c] w (RS K w (Tr.get t q))
end Go.Proofs.YtdkpilgelgjieaaGreat
/- A tree under a path. -/
namespace Go.Proofs.YtdkpilgelgjieaaGreat
open Go.RowKit
open Tr
set_option linter.unusedVariables false
set_option maxRecDepth 100000
theorem Sk.mono {K K' : Nat → Prop} {w : World} {a : Option Addr} {n c : Nat} {bs : List Int} (h : Sk K w a n c bs) (hK : ∀ b, K b → K' b) : Sk K' w a n c bs := ⟨h.ag, fun x hx hn => hK _ (h.k x hx hn)⟩
theorem TA.iface {K : Nat → Prop} {w : World} {t : Tr} {v : Value} (h : TA K w t v) (hne : t ≠ no) : ∃ T x, v = .iface T x := by
  cases t with
  | no => exact absurd rfl hne
  | leaf p x => obtain ⟨_, _, _, _, _, _, rfl, _⟩ := h; exact ⟨_, _, rfl⟩
  | ext p t => obtain ⟨_, _, _, _, rfl, _⟩ := h; exact ⟨_, _, rfl⟩
  | br k x => obtain ⟨_, _, _, _, rfl, _⟩ := h; exact ⟨_, _, rfl⟩
def US (t : Tr) : Prop := ∀ {K : Nat → Prop} {w : World} {v : Value} {a : Option Addr} {n c : Nat} {q : List Int} {B : Nat}, Ok B t → TA K w t v → Sk K w a n c q → q.length ≤ 64 → B ≤ 64 → (∀ b, w.heap.size ≤ b → K b) → MC "pergola/trie.under" v #[.slice a n c] w (TRs K w (und q t))
set_option maxHeartbeats 1000000 in
theorem lunder_any {K : Nat → Prop} {w : World} {a a' : Option Addr} {n c n' c' : Nat} {p x : List Int} (hp : Sk K w a n c p) (hx : Sk K w a' n' c' x) (hn2 : n' ≤ 256) {aq : Option Addr} {nq cq : Nat} {q : List Int} (hq : Sk K w aq nq cq q) (hK : ∀ b, w.heap.size ≤ b → K b) (hl1 : p.length ≤ 64) (hl2 : q.length ≤ 64) :
    Calls Tryz.prog 149 #[.agg #[.slice a n c, .slice a' n' c'], .slice aq nq cq] w fun e w' => ∃ u, e = .returned u ∧ TRs K w (und q (leaf p x)) u w' := by
  have hB := Bl.refl w
  refine cw_enter Tryz.func149 rfl 14 rfl ?_
  show CW _ _ _ _ _ _ _ [(0, .agg #[.slice a n c, .slice a' n' c']), (1, .slice aq nq cq)] _
  refine cw_seq ?_
  refine cw_region ?_
  refine rw_new 2 (#[.slice a n c, .slice a' n' c']) 110 (fun _ => by kernel_rfl) (fun _ => by kernel_rfl) ?_
  intro w1 g2 hn3
  replace hB := hB.go hn3.below
  replace hp := hp.go hn3.below
  replace hq := hq.go hn3.below
  replace hx := hx.go hn3.below
  have hr4 : Rw g2 w1 (#[.slice a n c, .slice a' n' c']) 110 := hn3.row
  refine rp 4 (.nilIface) ?_
  refine rw_nil ?_
  refine nw_then ?_
  refine cw_seq ?_
  have lp := hp.len
  have lq := hq.len
  refine cw_draw (fun v => Rw g2 v (#[.slice a n c, .slice a' n' c']) 110) (by kernel_rfl) (hr4.drew) ?_
  replace hB := hB.drew
  replace hp := hp.drew
  replace hq := hq.drew
  replace hx := hx.drew
  replace hr4 := hr4.drew
  refine dt 0 5 (.slice aq nq cq) (fun v hv _ => by kernel_rfl) hr4 ?_
  refine dt 1 6 (.pointer (some ⟨g2, 0, none⟩)) (fun v hv _ => by kernel_rfl) hr4 ?_
  refine dt 2 7 (.slice a n c) (fun v hv _ => ol_cell 32 _ ⟨g2, 0, none⟩ _ _ rfl (by kernel_rfl) (by rw [cell_of_row _ _ _ _ _ _ hv]; rfl) Tryz.underlying32 rfl) hr4 ?_
  refine dt 5 10 (.pointer (some ⟨g2, 1, none⟩)) (fun v hv _ => by kernel_rfl) hr4 ?_
  refine dt 6 11 (.slice a' n' c') (fun v hv _ => ol_cell 32 _ ⟨g2, 1, none⟩ _ _ rfl (by kernel_rfl) (by rw [cell_of_row _ _ _ _ _ _ hv]; rfl) Tryz.underlying32 rfl) hr4 ?_
  refine dw_ready [3] (by kernel_rfl) (by simp) ?_
  refine ar_newS 3 8 #[.slice aq nq cq, .slice a n c] 32 2 rfl (fun _ => by kernel_rfl) (fun _ => by kernel_rfl) (fun w' g h => hr4.go h.below) ?_ ar_nil
  intro w5 g6 hn7
  replace hB := hB.go hn7.below
  replace hp := hp.go hn7.below
  replace hq := hq.go hn7.below
  replace hx := hx.go hn7.below
  replace hr4 := hr4.go hn7.below
  have hL : Rw g6 w5 #[.slice aq nq cq, .slice a n c] 32 := hn7.row
  refine dw_ready [4] (by kernel_rfl) (by simp) ?_
  refine ar_call 4 9 152 #[.slice (some ⟨g6, 0, none⟩) 2 2] rfl (fun _ => by kernel_rfl) (fun _ => by kernel_rfl) (R := fun u w' => ∃ a2 n2 c2, u = .slice a2 n2 c2 ∧ Sk (fun b => (w5).heap.size ≤ b) w' a2 n2 c2 (q ++ p) ∧ Bl (w5) w') ((concat_any hq hp hL (by omega) (by omega))) (fun u w' h => hr4.go (by obtain ⟨_, _, _, _, _, h⟩ := h; exact h)) ?_ ar_nil
  rintro _ u8 ⟨a3, n3, c3, rfl, hs3, hb9⟩
  have hsB := hB.size
  replace hs3 : Sk K u8 a3 n3 c3 (q ++ p) := hs3.mono (fun b hb => hK b (Nat.le_trans hsB hb))
  replace hB := hB.go hb9
  replace hp := hp.go hb9
  replace hq := hq.go hb9
  replace hx := hx.go hb9
  replace hr4 := hr4.go hb9
  replace hL := hL.go hb9
  refine dt 7 12 (.agg #[.slice a3 n3 c3, .slice a' n' c']) (fun v hv => (fun _ => by kernel_rfl)) hr4 ?_
  refine dt 8 13 (.iface 110 (.agg #[.slice a3 n3 c3, .slice a' n' c'])) (fun v hv _ => by kernel_rfl) hr4 ?_
  refine dt 9 4 (.iface 110 (.agg #[.slice a3 n3 c3, .slice a' n' c'])) (fun v hv _ => by kernel_rfl) hr4 ?_
  refine dw_done (by kernel_rfl) ?_
  refine nw_then ?_
  refine cw_ret ?_
  exact nw_ret_body (.iface 110 (.agg #[.slice a3 n3 c3, .slice a' n' c'])) (fun _ => by kernel_rfl) ⟨_, rfl, ⟨_, _, _, _, _, _, rfl, hs3, hx, hn2⟩, hB⟩
set_option maxHeartbeats 1000000 in
theorem eunder_any {K : Nat → Prop} {w : World} {a : Option Addr} {n c : Nat} {p : List Int} {t : Tr} {Tu : TypeId} {xu : Value} (hp : Sk K w a n c p) (ht : TA K w t (.iface Tu xu)) {aq : Option Addr} {nq cq : Nat} {q : List Int} (hq : Sk K w aq nq cq q) (hK : ∀ b, w.heap.size ≤ b → K b) (hl1 : p.length ≤ 64) (hl2 : q.length ≤ 64) :
    Calls Tryz.prog 168 #[.agg #[.slice a n c, .iface Tu xu], .slice aq nq cq] w fun e w' => ∃ u, e = .returned u ∧ TRs K w (und q (ext p t)) u w' := by
  have hB := Bl.refl w
  refine cw_enter Tryz.func168 rfl 14 rfl ?_
  show CW _ _ _ _ _ _ _ [(0, .agg #[.slice a n c, .iface Tu xu]), (1, .slice aq nq cq)] _
  refine cw_seq ?_
  refine cw_region ?_
  refine rw_new 2 (#[.slice a n c, .iface Tu xu]) 189 (fun _ => by kernel_rfl) (fun _ => by kernel_rfl) ?_
  intro w1 g2 hn3
  replace hB := hB.go hn3.below
  replace hp := hp.go hn3.below
  replace hq := hq.go hn3.below
  replace ht := ht.go hn3.below
  have hr4 : Rw g2 w1 (#[.slice a n c, .iface Tu xu]) 189 := hn3.row
  refine rp 4 (.nilIface) ?_
  refine rw_nil ?_
  refine nw_then ?_
  refine cw_seq ?_
  have lp := hp.len
  have lq := hq.len
  refine cw_draw (fun v => Rw g2 v (#[.slice a n c, .iface Tu xu]) 189) (by kernel_rfl) (hr4.drew) ?_
  replace hB := hB.drew
  replace hp := hp.drew
  replace hq := hq.drew
  replace ht := ht.drew
  replace hr4 := hr4.drew
  refine dt 0 5 (.slice aq nq cq) (fun v hv _ => by kernel_rfl) hr4 ?_
  refine dt 1 6 (.pointer (some ⟨g2, 0, none⟩)) (fun v hv _ => by kernel_rfl) hr4 ?_
  refine dt 2 7 (.slice a n c) (fun v hv _ => ol_cell 32 _ ⟨g2, 0, none⟩ _ _ rfl (by kernel_rfl) (by rw [cell_of_row _ _ _ _ _ _ hv]; rfl) Tryz.underlying32 rfl) hr4 ?_
  refine dt 5 10 (.pointer (some ⟨g2, 1, none⟩)) (fun v hv _ => by kernel_rfl) hr4 ?_
  refine dt 6 11 (.iface Tu xu) (fun v hv _ => ol_cell 70 _ ⟨g2, 1, none⟩ _ _ rfl (by kernel_rfl) (by rw [cell_of_row _ _ _ _ _ _ hv]; rfl) Tryz.underlying70 rfl) hr4 ?_
  refine dw_ready [3] (by kernel_rfl) (by simp) ?_
  refine ar_newS 3 8 #[.slice aq nq cq, .slice a n c] 32 2 rfl (fun _ => by kernel_rfl) (fun _ => by kernel_rfl) (fun w' g h => hr4.go h.below) ?_ ar_nil
  intro w5 g6 hn7
  replace hB := hB.go hn7.below
  replace hp := hp.go hn7.below
  replace hq := hq.go hn7.below
  replace ht := ht.go hn7.below
  replace hr4 := hr4.go hn7.below
  have hL : Rw g6 w5 #[.slice aq nq cq, .slice a n c] 32 := hn7.row
  refine dw_ready [4] (by kernel_rfl) (by simp) ?_
  refine ar_call 4 9 152 #[.slice (some ⟨g6, 0, none⟩) 2 2] rfl (fun _ => by kernel_rfl) (fun _ => by kernel_rfl) (R := fun u w' => ∃ a2 n2 c2, u = .slice a2 n2 c2 ∧ Sk (fun b => (w5).heap.size ≤ b) w' a2 n2 c2 (q ++ p) ∧ Bl (w5) w') ((concat_any hq hp hL (by omega) (by omega))) (fun u w' h => hr4.go (by obtain ⟨_, _, _, _, _, h⟩ := h; exact h)) ?_ ar_nil
  rintro _ u8 ⟨a3, n3, c3, rfl, hs3, hb9⟩
  have hsB := hB.size
  replace hs3 : Sk K u8 a3 n3 c3 (q ++ p) := hs3.mono (fun b hb => hK b (Nat.le_trans hsB hb))
  replace hB := hB.go hb9
  replace hp := hp.go hb9
  replace hq := hq.go hb9
  replace ht := ht.go hb9
  replace hr4 := hr4.go hb9
  replace hL := hL.go hb9
  refine dt 7 12 (.agg #[.slice a3 n3 c3, .iface Tu xu]) (fun v hv => (fun _ => by kernel_rfl)) hr4 ?_
  refine dt 8 13 (.iface 189 (.agg #[.slice a3 n3 c3, .iface Tu xu])) (fun v hv _ => by kernel_rfl) hr4 ?_
  refine dt 9 4 (.iface 189 (.agg #[.slice a3 n3 c3, .iface Tu xu])) (fun v hv _ => by kernel_rfl) hr4 ?_
  refine dw_done (by kernel_rfl) ?_
  refine nw_then ?_
  refine cw_ret ?_
  exact nw_ret_body (.iface 189 (.agg #[.slice a3 n3 c3, .iface Tu xu])) (fun _ => by kernel_rfl) ⟨_, rfl, ⟨_, _, _, _, rfl, hs3, ht⟩, hB⟩
set_option maxHeartbeats 1000000 in
theorem bunder_z {K : Nat → Prop} {w : World} {a : Option Addr} {n c : Nat} {x : List Int} {k : Nat → Tr} {vs : Nat → Value} (hk : TK K w k vs) (hx : Sk K w a n c x) (hn2 : n ≤ 256) {aq : Option Addr} {nq cq : Nat} {q : List Int} (hq : Sk K w aq nq cq q) (hnq : nq = 0) :
    Calls Tryz.prog 162 #[.agg (brc vs (.slice a n c)), .slice aq nq cq] w fun e w' => ∃ u, e = .returned u ∧ TRs K w (und q (br k x)) u w' := by
  have hB := Bl.refl w
  refine cw_enter Tryz.func162 rfl 15 rfl ?_
  show CW _ _ _ _ _ _ _ [(0, .agg (brc vs (.slice a n c))), (1, .slice aq nq cq)] _
  refine cw_seq ?_
  refine cw_region ?_
  refine rw_new 2 (brc vs (.slice a n c)) 184 (fun _ => by kernel_rfl) (fun _ => by kernel_rfl) ?_
  intro w1 g2 hn3
  replace hB := hB.go hn3.below
  replace hx := hx.go hn3.below
  replace hq := hq.go hn3.below
  replace hk := hk.go hn3.below
  have hr4 : Rw g2 w1 (brc vs (.slice a n c)) 184 := hn3.row
  refine rp 4 (.nilIface) ?_
  refine rw_nil ?_
  refine nw_then ?_
  refine cw_seq ?_
  refine cw_seq ?_
  refine cw_region ?_
  refine rp 5 (.slice aq nq cq) ?_
  refine rp 6 (.int .i64 nq) ?_
  refine rv 7 (.bool true) (fun _ => ol_conv (v := .bool ((nq : Int) == (0 : Int))) (by kernel_rfl) (congrArg Value.bool (beq_iff_eq.2 (by omega)))) ?_
  refine rw_nil ?_
  refine nw_then ?_
  refine cw_cond_t (fun _ => by kernel_rfl) ?_
  refine cw_seq ?_
  refine cw_region ?_
  refine rv 8 (.agg (brc vs (.slice a n c))) (fun _ => ol_row 184 _ _ _ _ _ _ rfl (by kernel_rfl) hr4 Tryz.underlying184 rfl (by kernel_rfl)) ?_
  refine rp 9 (.iface 184 (.agg (brc vs (.slice a n c)))) ?_
  refine rp 4 (.iface 184 (.agg (brc vs (.slice a n c)))) ?_
  refine rw_nil ?_
  refine nw_then ?_
  refine cw_ret ?_
  refine nw_ret_then ?_
  exact nw_ret_body (.iface 184 (.agg (brc vs (.slice a n c)))) (fun _ => by kernel_rfl) ⟨_, rfl, (by have e : q = [] := List.eq_nil_of_length_eq_zero (by have := hq.len; omega); subst e; exact ⟨vs, _, _, _, rfl, hk, hx, hn2⟩), hB⟩
set_option maxHeartbeats 1000000 in
theorem bunder_p {K : Nat → Prop} {w : World} {a : Option Addr} {n c : Nat} {x : List Int} {k : Nat → Tr} {vs : Nat → Value} (hk : TK K w k vs) (hx : Sk K w a n c x) (hn2 : n ≤ 256) {aq : Option Addr} {nq cq : Nat} {q : List Int} (hq : Sk K w aq nq cq q) (hnq : 0 < nq) :
    Calls Tryz.prog 162 #[.agg (brc vs (.slice a n c)), .slice aq nq cq] w fun e w' => ∃ u, e = .returned u ∧ TRs K w (und q (br k x)) u w' := by
  have hB := Bl.refl w
  refine cw_enter Tryz.func162 rfl 15 rfl ?_
  show CW _ _ _ _ _ _ _ [(0, .agg (brc vs (.slice a n c))), (1, .slice aq nq cq)] _
  refine cw_seq ?_
  refine cw_region ?_
  refine rw_new 2 (brc vs (.slice a n c)) 184 (fun _ => by kernel_rfl) (fun _ => by kernel_rfl) ?_
  intro w1 g2 hn3
  replace hB := hB.go hn3.below
  replace hx := hx.go hn3.below
  replace hq := hq.go hn3.below
  replace hk := hk.go hn3.below
  have hr4 : Rw g2 w1 (brc vs (.slice a n c)) 184 := hn3.row
  refine rp 4 (.nilIface) ?_
  refine rw_nil ?_
  refine nw_then ?_
  refine cw_seq ?_
  refine cw_seq ?_
  refine cw_region ?_
  refine rp 5 (.slice aq nq cq) ?_
  refine rp 6 (.int .i64 nq) ?_
  refine rv 7 (.bool false) (fun _ => ol_conv (v := .bool ((nq : Int) == (0 : Int))) (by kernel_rfl) (congrArg Value.bool (beq_eq_false_iff_ne.2 (by omega)))) ?_
  refine rw_nil ?_
  refine nw_then ?_
  refine cw_cond_f (fun _ => by kernel_rfl) ?_
  refine cw_skip ?_
  refine nw_then ?_
  refine cw_seq ?_
  refine cw_region ?_
  refine rp 10 (.slice aq nq cq) ?_
  refine rv 11 (.agg (brc vs (.slice a n c))) (fun _ => ol_row 184 _ _ _ _ _ _ rfl (by kernel_rfl) hr4 Tryz.underlying184 rfl (by kernel_rfl)) ?_
  refine rp 12 (.iface 184 (.agg (brc vs (.slice a n c)))) ?_
  refine rp 13 (.agg #[.slice aq nq cq, .iface 184 (.agg (brc vs (.slice a n c)))]) ?_
  refine rp 14 (.iface 189 (.agg #[.slice aq nq cq, .iface 184 (.agg (brc vs (.slice a n c)))])) ?_
  refine rp 4 (.iface 189 (.agg #[.slice aq nq cq, .iface 184 (.agg (brc vs (.slice a n c)))])) ?_
  refine rw_nil ?_
  refine nw_then ?_
  refine cw_ret ?_
  have e : q ≠ [] := by intro e; have := hq.len; rw [e, List.length_nil] at this; omega
  exact nw_ret_body (.iface 189 (.agg #[.slice aq nq cq, .iface 184 (.agg (brc vs (.slice a n c)))])) (fun _ => by kernel_rfl) ⟨_, rfl, (by simp only [und]; rw [if_neg e]; exact ⟨_, _, _, _, rfl, hq, vs, _, _, _, rfl, hk, hx, hn2⟩), hB⟩
theorem us_br {K : Nat → Prop} {w : World} {v : Value} {a : Option Addr} {n c : Nat} {q x : List Int} {k : Nat → Tr} (ht : TA K w (br k x) v) (hq : Sk K w a n c q) : MC "pergola/trie.under" v #[.slice a n c] w (TRs K w (und q (br k x))) := by
  obtain ⟨vs, a1, n1, c1, rfl, h1, h2, h3⟩ := ht
  refine ⟨_, _, _, rfl, iv_under_b _, ?_⟩
  rcases Nat.eq_zero_or_pos n with h | h
  · exact bunder_z h1 h2 h3 hq h
  · exact bunder_p h1 h2 h3 hq h
theorem us_all (t : Tr) : US t := by
  cases t with
  | no => intro K w v a n c q B hO; exact hO.elim
  | leaf p x =>
    intro K w v a n c q B hO ht hq hl hB hK
    obtain ⟨a1, n1, c1, a2, n2, c2, rfl, h1, h2, h3⟩ := ht
    exact ⟨_, _, _, rfl, iv_under_l _, lunder_any h1 h2 h3 hq hK (Nat.le_trans hO.2.1 hB) hl⟩
  | ext p t =>
    intro K w v a n c q B hO ht hq hl hB hK
    obtain ⟨a1, n1, c1, u, rfl, h1, h2⟩ := ht
    obtain ⟨Tu, xu, rfl⟩ := h2.iface (fun e => by rw [e] at hO; exact absurd hO.2.2.2.1 (by simp [isBr]))
    exact ⟨_, _, _, rfl, iv_under_e _, eunder_any h1 h2 hq hK (Nat.le_trans hO.2.2.1 hB) hl⟩
  | br k x =>
    intro K w v a n c q B hO ht hq hl hB hK
    exact us_br ht hq
end Go.Proofs.YtdkpilgelgjieaaGreat
/- A value put into a branch. -/
namespace Go.Proofs.YtdkpilgelgjieaaGreat
open Go.RowKit
open Tr
set_option linter.unusedVariables false
set_option maxRecDepth 100000
/-- No cell of a row is a number. -/
def NoInt (cells : Array Value) : Prop := ∀ (j : Nat) (v : Value), cells[j]? = some v → ∀ kd z, v ≠ .int kd z
/-- A cell of a box that has no numbers is written over. -/
structure Bs (w w' : World) (g : Nat) : Prop where
  other : ∀ k, k ≠ g → w'.heap[k]? = w.heap[k]?
  no : ∀ o kd z, w.cell? ⟨g, o, none⟩ ≠ some (.int kd z)
theorem Bs.of {w w' : World} {g o : Nat} {cells : Array Value} {T : TypeId} {v : Value} (h : Rw g w cells T) (hn : NoInt cells) (hs : Set1 w w' g o v) : Bs w w' g :=
  ⟨fun k hk => hs.other hk, fun o kd z e => by rw [cell_of_row _ _ _ _ _ _ h] at e; exact hn _ _ e kd z rfl⟩
theorem Sk.bs {K : Nat → Prop} {w w' : World} {g : Nat} {a : Option Addr} {n c : Nat} {bs : List Int} (h : Sk K w a n c bs) (hb : Bs w w' g) : Sk K w' a n c bs := by
  refine ⟨⟨?_, h.ag.nil, h.ag.l, h.ag.b⟩, h.k⟩
  rcases h.ag.i with h1 | ⟨gb, off, h1, h2, h3, h4, h5, h7⟩
  · exact .inl h1
  · refine .inr ⟨gb, off, h1, h2, h3, h4, h5, fun j hj => ?_⟩
    have hne : gb ≠ g := fun e => by
      subst e
      exact hb.no _ _ _ (h7 j hj)
    rw [← h7 j hj]
    exact World.cell?_of_block (hb.other gb hne)
theorem TA.bs {K : Nat → Prop} {w w' : World} {g : Nat} (hb : Bs w w' g) : ∀ {t : Tr} {v : Value}, TA K w t v → TA K w' t v := by
  intro t
  induction t with
  | no => intro v h; exact h
  | leaf p x => rintro v ⟨a, n, c, a', n', c', h1, h2, h3, h4⟩; exact ⟨a, n, c, a', n', c', h1, h2.bs hb, h3.bs hb, h4⟩
  | ext p t ih => rintro v ⟨a, n, c, u, h1, h2, h3⟩; exact ⟨a, n, c, u, h1, h2.bs hb, ih h3⟩
  | br k x ih => rintro v ⟨vs, a, n, c, h1, h2, h3, h4⟩; exact ⟨vs, a, n, c, h1, fun i hi => ih i (h2 i hi), h3.bs hb, h4⟩
theorem TK.bs {K : Nat → Prop} {w w' : World} {g : Nat} {k : Nat → Tr} {vs : Nat → Value} (h : TK K w k vs) (hb : Bs w w' g) : TK K w' k vs := fun i hi => (h i hi).bs hb
theorem Bl.set {w0 w w' : World} {g o : Nat} {v : Value} (h : Bl w0 w) (hs : Set1 w w' g o v) (hg : w0.heap.size ≤ g) : Bl w0 w' := hs.touch.below h hg h.size
theorem Rw.set {g o : Nat} {w w' : World} {cells cells' : Array Value} {T : TypeId} {v : Value} (h : Rw g w cells T) (hs : Set1 w w' g o v) (e : cells.setIfInBounds o v = cells') : Rw g w' cells' T := by
  rw [← e, Rw, hs.hw]; exact heap_setCell_same _ _ _ _ _ _ h
theorem Rw.apart {g g' o : Nat} {w w' : World} {cells : Array Value} {T : TypeId} {v : Value} (h : Rw g w cells T) (hs : Set1 w w' g' o v) (e : g ≠ g') : Rw g w' cells T := (hs.other e).trans h
theorem TA.noint {K : Nat → Prop} {w : World} {t : Tr} {v : Value} (h : TA K w t v) (kd : IntKind) (z : Int) : v ≠ .int kd z := by
  cases t with
  | no => rw [show v = .nilIface from h]; simp
  | leaf p x => obtain ⟨_, _, _, _, _, _, rfl, _⟩ := h; simp
  | ext p t => obtain ⟨_, _, _, _, rfl, _⟩ := h; simp
  | br k x => obtain ⟨_, _, _, _, rfl, _⟩ := h; simp
theorem TK.noint {K : Nat → Prop} {w : World} {k : Nat → Tr} {vs : Nat → Value} (h : TK K w k vs) (a : Option Addr) (n c : Nat) : NoInt (brc vs (.slice a n c)) := by
  intro j v hj kd z
  by_cases h16 : j < 16
  · rw [brc_get _ _ _ h16] at hj
    cases hj
    exact (h j h16).noint kd z
  · have hl : j < (brc vs (.slice a n c)).size := (Array.getElem?_eq_some_iff.1 hj).1
    have hl : j < 17 := hl
    obtain rfl : j = 16 := by omega
    rw [show (brc vs (.slice a n c))[16]? = some (.slice a n c) from rfl] at hj
    cases hj
    simp
theorem TK.put {K : Nat → Prop} {w : World} {k : Nat → Tr} {vs : Nat → Value} (h : TK K w k vs) {i : Nat} {t : Tr} {v : Value} (ht : TA K w t v) : TK K w (upd k i t) (updv vs i v) := fun j hj => by
  unfold Tr.upd updv
  by_cases e : j = i
  · rw [if_pos e, if_pos e]; exact ht
  · rw [if_neg e, if_neg e]; exact h j hj
theorem TK.none (K : Nat → Prop) (w : World) : TK K w nk (fun _ => .nilIface) := fun _ _ => rfl
theorem ol_setC {ρ : Operand → Value} {w : World} {o : Oper} (T : TypeId) (x y : Operand) (g j : Nat) (cells : Array Value) (E : TypeId) (v : Value) (h : Rw g w cells E) (ho : o.op = .store T x y) (hx : ρ x = .pointer (some ⟨g, j, none⟩)) (hy : ρ y = v) (hj : j < cells.size) (h1 : v.cells = #[v]) (h2 : v.oneCell' = true) (hi : (Tryz.prog.info? T).map (·.size) = some 1) :
    (execOp ρ o).run Tryz.prog w = .ok .skip (w.setCell ⟨g, j, none⟩ v) := by
  have hc : w.cell? ⟨g, j, none⟩ = some cells[j] := by rw [cell_of_row _ _ _ _ _ _ h]; exact Array.getElem?_eq_getElem hj
  have hf : w.frozen? ⟨g, j, none⟩ = false := frozen_of_row _ _ _ _ _ h
  have hs : (sizeOf T).run Tryz.prog w = .ok 1 w := by
    cases hq : Tryz.prog.info? T with
    | none => simp [hq] at hi
    | some z => simp [hq] at hi; simp [sizeOf, typeInfo, hq, hi]
  unfold execOp
  rw [ho]
  simp only [hx, hy, Instr.storeAt, Instr.sureAddr, storeVar, h1, Sem.run_bind, Sem.run_pure, Result.andThen_ok, hs]
  go_simp
  rw [run_store _ _ _ _ _ h2]
  simp [hc, hf]
theorem TA.cells {K : Nat → Prop} {w : World} {t : Tr} {v : Value} (h : TA K w t v) : v.cells = #[v] := by
  cases t with
  | no => rw [show v = .nilIface from h]; rfl
  | leaf p x => obtain ⟨_, _, _, _, _, _, rfl, _⟩ := h; rfl
  | ext p t => obtain ⟨_, _, _, _, rfl, _⟩ := h; rfl
  | br k x => obtain ⟨_, _, _, _, rfl, _⟩ := h; rfl
def WS (t : Tr) : Prop := ∀ {K : Nat → Prop} {w : World} {v : Value} {a : Option Addr} {n c : Nat} {q : List Int} {a' : Option Addr} {n' c' : Nat} {x : List Int} {B : Nat}, Ok B t → B ≤ 64 → q.length ≤ B → Nb q → TA K w t v → Sk K w a n c q → Sk K w a' n' c' x → n' ≤ 256 → (∀ b, w.heap.size ≤ b → K b) → MC "pergola/trie.with" v #[.slice a n c, .slice a' n' c'] w (TRs K w (put t q x))
set_option maxHeartbeats 1000000 in
theorem put_no {K : Nat → Prop} {w : World} {aq : Option Addr} {nq cq : Nat} {q : List Int} (hq : Sk K w aq nq cq q) {ax : Option Addr} {nx cx : Nat} {x : List Int} (hx : Sk K w ax nx cx x) (hx2 : nx ≤ 256) :
    Calls Tryz.prog 40 #[.nilIface, .slice aq nq cq, .slice ax nx cx] w fun e w' => ∃ u, e = .returned u ∧ TRs K w (put no q x) u w' := by
  have hB := Bl.refl w
  refine cw_enter Tryz.func40 rfl 17 rfl ?_
  show CW _ _ _ _ _ _ _ [(0, .nilIface), (1, .slice aq nq cq), (2, .slice ax nx cx)] _
  refine cw_seq ?_
  refine cw_region ?_
  refine rp 6 (.nilIface) ?_
  refine rw_nil ?_
  refine nw_then ?_
  refine cw_seq ?_
  refine cw_seq ?_
  refine cw_region ?_
  refine rp 7 (.nilIface) ?_
  refine rp 8 (.bool true) ?_
  refine rw_nil ?_
  refine nw_then ?_
  refine cw_cond_t (fun _ => by kernel_rfl) ?_
  refine cw_seq ?_
  refine cw_region ?_
  refine rp 9 (.slice aq nq cq) ?_
  refine rp 10 (.slice ax nx cx) ?_
  refine rp 11 (.agg #[.slice aq nq cq, .slice ax nx cx]) ?_
  refine rp 12 (.iface 110 (.agg #[.slice aq nq cq, .slice ax nx cx])) ?_
  refine rp 6 (.iface 110 (.agg #[.slice aq nq cq, .slice ax nx cx])) ?_
  refine rw_nil ?_
  refine nw_then ?_
  refine cw_ret ?_
  refine nw_ret_then ?_
  exact nw_ret_body (.iface 110 (.agg #[.slice aq nq cq, .slice ax nx cx])) (fun _ => by kernel_rfl) ⟨_, rfl, ⟨_, _, _, _, _, _, rfl, hq, hx, hx2⟩, hB⟩
set_option maxHeartbeats 1000000 in
theorem put_yes {K : Nat → Prop} {w : World} {aq : Option Addr} {nq cq : Nat} {ax : Option Addr} {nx cx : Nat} {t : Tr} {T0 : TypeId} {v0 : Value} (hm : MC "pergola/trie.with" (.iface T0 v0) #[.slice aq nq cq, .slice ax nx cx] w (TRs K w t)) :
    Calls Tryz.prog 40 #[.iface T0 v0, .slice aq nq cq, .slice ax nx cx] w fun e w' => ∃ u, e = .returned u ∧ TRs K w t u w' := by
  have hB := Bl.refl w
  refine cw_enter Tryz.func40 rfl 17 rfl ?_
  show CW _ _ _ _ _ _ _ [(0, .iface T0 v0), (1, .slice aq nq cq), (2, .slice ax nx cx)] _
  refine cw_seq ?_
  refine cw_region ?_
  refine rp 6 (.nilIface) ?_
  refine rw_nil ?_
  refine nw_then ?_
  refine cw_seq ?_
  refine cw_seq ?_
  refine cw_region ?_
  refine rp 7 (.iface T0 v0) ?_
  refine rp 8 (.bool false) ?_
  refine rw_nil ?_
  refine nw_then ?_
  refine cw_cond_f (fun _ => by kernel_rfl) ?_
  refine cw_skip ?_
  refine nw_then ?_
  refine cw_seq ?_
  refine cw_region ?_
  refine rp 13 (.iface T0 v0) ?_
  refine rp 14 (.slice aq nq cq) ?_
  refine rp 15 (.slice ax nx cx) ?_
  obtain ⟨T3, x4, f5, he6, hi1, hc2⟩ := hm
  refine rw_call 16 f5 (#[x4] ++ #[.slice aq nq cq, .slice ax nx cx]) (fun _ => by kernel_rfl) (fun _ => hi1 _ _ _ _ _ _ _ rfl (by kernel_rfl) (by kernel_rfl)) (R := TRs K w t) ?_ ?_
  · exact hc2
  rintro vR u1 ⟨ht, hb⟩
  replace hB := hB.go hb
  refine rp 6 (vR) ?_
  refine rw_nil ?_
  refine nw_then ?_
  refine cw_ret ?_
  exact nw_ret_body vR (fun _ => by kernel_rfl) ⟨_, rfl, ht, hB⟩
theorem treeput_any {K : Nat → Prop} {w : World} {t : Tr} {v : Value} {aq : Option Addr} {nq cq : Nat} {q : List Int} (hF : t = no ∨ ∃ B, Ok B t ∧ B ≤ 64 ∧ q.length ≤ B ∧ WS t) (ht : TA K w t v) (hq : Sk K w aq nq cq q) (hnb : Nb q) {ax : Option Addr} {nx cx : Nat} {x : List Int} (hx : Sk K w ax nx cx x) (hx2 : nx ≤ 256) (hK : ∀ b, w.heap.size ≤ b → K b) :
    Calls Tryz.prog 40 #[v, .slice aq nq cq, .slice ax nx cx] w fun e w' => ∃ u, e = .returned u ∧ TRs K w (put t q x) u w' := by
  rcases hF with rfl | ⟨B, hO, h64, hl, hF⟩
  · rw [show v = .nilIface from ht]
    exact put_no hq hx hx2
  · have hm := hF hO h64 hl hnb ht hq hx hx2 hK
    obtain ⟨T, y, f, rfl, _⟩ := id hm
    exact put_yes hm
set_option maxHeartbeats 1000000 in
theorem bwith_nil {K : Nat → Prop} {w : World} {a : Option Addr} {n c : Nat} {y : List Int} {k : Nat → Tr} {vs : Nat → Value} (hk : TK K w k vs) (hy : Sk K w a n c y) (hn2 : n ≤ 256) {ax : Option Addr} {nx cx : Nat} {x : List Int} (hx : Sk K w ax nx cx x) (hx2 : nx ≤ 256) (hK : ∀ b, w.heap.size ≤ b → K b) {aq : Option Addr} {nq cq : Nat} {q : List Int} (hq : Sk K w aq nq cq q) (hnq : nq = 0) :
    Calls Tryz.prog 154 #[.agg (brc vs (.slice a n c)), .slice aq nq cq, .slice ax nx cx] w fun e w' => ∃ u, e = .returned u ∧ TRs K w (put (br k y) q x) u w' := by
  have hB := Bl.refl w
  refine cw_enter Tryz.func154 rfl 31 rfl ?_
  show CW _ _ _ _ _ _ _ [(0, .agg (brc vs (.slice a n c))), (1, .slice aq nq cq), (2, .slice ax nx cx)] _
  refine cw_seq ?_
  refine cw_region ?_
  refine rw_new 3 (brc vs (.slice a n c)) 184 (fun _ => by kernel_rfl) (fun _ => by kernel_rfl) ?_
  intro w1 g2 hn3
  replace hB := hB.go hn3.below
  replace hy := hy.go hn3.below
  replace hx := hx.go hn3.below
  replace hk := hk.go hn3.below
  replace hq := hq.go hn3.below
  have hr4 : Rw g2 w1 (brc vs (.slice a n c)) 184 := hn3.row
  refine rp 6 (.nilIface) ?_
  refine rw_nil ?_
  have hgs := hn3.hg
  refine nw_then ?_
  refine cw_seq ?_
  refine cw_seq ?_
  refine cw_region ?_
  refine rp 8 (.slice aq nq cq) ?_
  refine rp 9 (.int .i64 nq) ?_
  refine rv 10 (.bool true) (fun _ => ol_conv (v := .bool ((nq : Int) == (0 : Int))) (by kernel_rfl) (congrArg Value.bool (beq_iff_eq.2 (by omega)))) ?_
  refine rw_nil ?_
  refine nw_then ?_
  refine cw_cond_t (fun _ => by kernel_rfl) ?_
  refine cw_seq ?_
  refine cw_region ?_
  refine rp 11 (.slice ax nx cx) ?_
  refine rp 12 (.pointer (some ⟨g2, 16, none⟩)) ?_
  refine rw_set1 g2 16 (.slice ax nx cx) (fun _ => by kernel_rfl) (fun _ => ol_setC 32 _ _ g2 16 _ 184 _ hr4 rfl (by kernel_rfl) (by kernel_rfl) (by show 16 < 17; omega) rfl rfl (by kernel_rfl)) ?_
  intro w5 hp6
  have hbs : Bs w1 w5 g2 := Bs.of hr4 (hk.noint _ _ _) hp6
  replace hy := hy.bs hbs
  replace hx := hx.bs hbs
  replace hk := hk.bs hbs
  replace hq := hq.bs hbs
  replace hB := hB.set hp6 (by omega)
  replace hr4 : Rw g2 w5 (brc vs (.slice ax nx cx)) 184 := hr4.set hp6 (rfl)
  refine rw_nil ?_
  refine nw_then ?_
  refine cw_seq ?_
  refine cw_region ?_
  refine rv 13 (.agg (brc vs (.slice ax nx cx))) (fun _ => ol_row 184 _ _ _ _ _ _ rfl (by kernel_rfl) hr4 Tryz.underlying184 rfl (by kernel_rfl)) ?_
  refine rp 14 (.iface 184 (.agg (brc vs (.slice ax nx cx)))) ?_
  refine rp 6 (.iface 184 (.agg (brc vs (.slice ax nx cx)))) ?_
  refine rw_nil ?_
  refine nw_then ?_
  refine cw_ret ?_
  refine nw_ret_then ?_
  exact nw_ret_body (.iface 184 (.agg (brc vs (.slice ax nx cx)))) (fun _ => by kernel_rfl) ⟨_, rfl, (by have e : q = [] := List.eq_nil_of_length_eq_zero (by have := hq.len; omega); subst e; exact ⟨vs, _, _, _, rfl, hk, hx, hx2⟩), hB⟩
set_option maxHeartbeats 1000000 in
theorem bwith_cons {K : Nat → Prop} {w : World} {a : Option Addr} {n c : Nat} {y : List Int} {k : Nat → Tr} {vs : Nat → Value} (hk : TK K w k vs) (hy : Sk K w a n c y) (hn2 : n ≤ 256) {ax : Option Addr} {nx cx : Nat} {x : List Int} (hx : Sk K w ax nx cx x) (hx2 : nx ≤ 256) (hK : ∀ b, w.heap.size ≤ b → K b) {gq oq nq cq i : Nat} {r : List Int} (hi : i < 16) (hq : Sk K w (some ⟨gq, oq, none⟩) nq cq (((i : Nat) : Int) :: r)) (hnq : 0 < nq) (hc0 : w.cell? ⟨gq, oq + 0 * 1, none⟩ = some (.int .u8 ((i : Nat) : Int))) (hF : k i = no ∨ ∃ B, Ok B (k i) ∧ B ≤ 64 ∧ r.length ≤ B ∧ WS (k i)) (hnb : Nb r) :
    Calls Tryz.prog 154 #[.agg (brc vs (.slice a n c)), .slice (some ⟨gq, oq, none⟩) nq cq, .slice ax nx cx] w fun e w' => ∃ u, e = .returned u ∧ TRs K w (br (upd k i (put (k i) r x)) y) u w' := by
  have hB := Bl.refl w
  refine cw_enter Tryz.func154 rfl 31 rfl ?_
  show CW _ _ _ _ _ _ _ [(0, .agg (brc vs (.slice a n c))), (1, .slice (some ⟨gq, oq, none⟩) nq cq), (2, .slice ax nx cx)] _
  refine cw_seq ?_
  refine cw_region ?_
  refine rw_new 3 (brc vs (.slice a n c)) 184 (fun _ => by kernel_rfl) (fun _ => by kernel_rfl) ?_
  intro w1 g2 hn3
  replace hB := hB.go hn3.below
  replace hy := hy.go hn3.below
  replace hx := hx.go hn3.below
  replace hk := hk.go hn3.below
  replace hq := hq.go hn3.below
  have hr4 : Rw g2 w1 (brc vs (.slice a n c)) 184 := hn3.row
  refine rp 6 (.nilIface) ?_
  refine rw_nil ?_
  have hgs := hn3.hg
  refine nw_then ?_
  refine cw_seq ?_
  refine cw_seq ?_
  refine cw_region ?_
  refine rp 8 (.slice (some ⟨gq, oq, none⟩) nq cq) ?_
  refine rp 9 (.int .i64 nq) ?_
  refine rv 10 (.bool false) (fun _ => ol_conv (v := .bool ((nq : Int) == (0 : Int))) (by kernel_rfl) (congrArg Value.bool (beq_eq_false_iff_ne.2 (by omega)))) ?_
  refine rw_nil ?_
  refine nw_then ?_
  refine cw_cond_f (fun _ => by kernel_rfl) ?_
  refine cw_skip ?_
  refine nw_then ?_
  refine cw_seq ?_
  refine cw_region ?_
  refine rp 15 (.slice (some ⟨gq, oq, none⟩) nq cq) ?_
  refine rv 16 (.pointer (some ⟨gq, oq + 0 * 1, none⟩)) (fun _ => ol_index 32 _ _ gq oq 0 nq cq 1 5 rfl (by kernel_rfl) (by kernel_rfl) (by omega) Tryz.underlying32 (by kernel_rfl)) ?_
  refine rv 17 (.int .u8 ((i : Nat) : Int)) (fun _ => ol_cell 5 _ ⟨gq, oq + 0 * 1, none⟩ _ _ rfl (by kernel_rfl) ((hB.cell (p := ⟨gq, oq + 0 * 1, none⟩) (block_lt_of_cell hc0)).trans hc0) Tryz.underlying5 rfl) ?_
  refine rp 7 (.int .u8 ((i : Nat) : Int)) ?_
  refine rw_nil ?_
  refine nw_then ?_
  refine cw_seq ?_
  refine cw_draw (fun _ => True) (by kernel_rfl) (trivial) ?_
  replace hB := hB.drew
  replace hy := hy.drew
  replace hx := hx.drew
  replace hk := hk.drew
  replace hq := hq.drew
  replace hr4 := hr4.drew
  refine dt 0 18 (.int .u8 ((i : Nat) : Int)) (fun v hv _ => by kernel_rfl) trivial ?_
  refine dt 1 19 (.int .u8 ((i : Nat) : Int)) (fun v hv _ => by kernel_rfl) trivial ?_
  refine dt 2 20 (.pointer (some ⟨g2, 0, none⟩)) (fun v hv _ => by kernel_rfl) trivial ?_
  refine dt 3 21 (.pointer (some ⟨g2, 0 + i * 1, none⟩)) (fun v hv _ => ol_indexK (kd := .u8) 182 _ _ g2 0 i 16 1 70 rfl (by kernel_rfl) (by kernel_rfl) hi (by omega) Tryz.underlying182 (by kernel_rfl)) trivial ?_
  refine dt 5 23 (.slice (some ⟨gq, oq, none⟩) nq cq) (fun v hv _ => by kernel_rfl) trivial ?_
  obtain ⟨a5, n6, c7, hr8, hs9⟩ := hq.cutFrom 1 (by have := hq.len; omega)
  refine dt 6 24 (.slice a5 n6 c7) (fun v hv => (fun _ => hr8 _ _ _ _ _ _ rfl (by kernel_rfl) (by kernel_rfl) rfl)) trivial ?_
  refine dt 7 25 (.slice ax nx cx) (fun v hv _ => by kernel_rfl) trivial ?_
  refine dt 9 27 (.pointer (some ⟨g2, 0, none⟩)) (fun v hv _ => by kernel_rfl) trivial ?_
  refine dw_ready [4] (by kernel_rfl) (by simp) ?_
  refine ar_v 4 22 (vs i) rfl (fun _ => by kernel_rfl) (fun _ => ol_cell 70 _ ⟨g2, 0 + i * 1, none⟩ _ _ rfl (by kernel_rfl) (by rw [Nat.zero_add, Nat.mul_one, cell_of_row _ _ _ _ _ _ hr4, brc_get _ _ _ hi]) Tryz.underlying70 rfl) trivial ?_ ar_nil
  refine dw_ready [8] (by kernel_rfl) (by simp) ?_
  refine ar_call 8 26 40 #[vs i, .slice a5 n6 c7, .slice ax nx cx] rfl (fun _ => by kernel_rfl) (fun _ => by kernel_rfl) (R := TRs K (w1.drew) (put (k i) r x)) ((treeput_any hF (hk i hi) hs9 hnb hx hx2 (fun b hb => hK b (Nat.le_trans hB.size hb)))) (fun u w' h => trivial) ?_ ar_nil
  rintro vR u10 ⟨ht, hb11⟩
  replace hB := hB.go hb11
  replace hy := hy.go hb11
  replace hx := hx.go hb11
  replace hk := hk.go hb11
  replace hq := hq.go hb11
  replace hr4 := hr4.go hb11
  replace hs9 := hs9.go hb11
  refine dt 10 28 (.pointer (some ⟨g2, 0 + i * 1, none⟩)) (fun v hv _ => ol_indexK (kd := .u8) 182 _ _ g2 0 i 16 1 70 rfl (by kernel_rfl) (by kernel_rfl) hi (by omega) Tryz.underlying182 (by kernel_rfl)) trivial ?_
  refine dw_ready [11] (by kernel_rfl) (by simp) ?_
  refine ar_set1 11 g2 (0 + i * 1) vR rfl (fun _ => by kernel_rfl) (fun _ => ol_setC 70 _ _ g2 (0 + i * 1) _ 184 _ hr4 rfl (by kernel_rfl) (by kernel_rfl) (by show 0 + i * 1 < 17; omega) ht.cells ht.one (by kernel_rfl)) (fun w' h => trivial) ?_ ar_nil
  intro w12 hp13
  have hbs : Bs u10 w12 g2 := Bs.of hr4 (hk.noint _ _ _) hp13
  replace hy := hy.bs hbs
  replace hx := hx.bs hbs
  replace hk := hk.bs hbs
  replace hq := hq.bs hbs
  replace hs9 := hs9.bs hbs
  replace ht := ht.bs hbs
  replace hB := hB.set hp13 (by omega)
  replace hr4 : Rw g2 w12 (brc (updv vs i vR) (.slice a n c)) 184 := hr4.set hp13 (by rw [Nat.zero_add, Nat.mul_one]; exact brc_set _ _ _ _ hi)
  refine dw_done (by kernel_rfl) ?_
  refine nw_then ?_
  refine cw_seq ?_
  refine cw_region ?_
  refine rv 29 (.agg (brc (updv vs i vR) (.slice a n c))) (fun _ => ol_row 184 _ _ _ _ _ _ rfl (by kernel_rfl) hr4 Tryz.underlying184 rfl (by kernel_rfl)) ?_
  refine rp 30 (.iface 184 (.agg (brc (updv vs i vR) (.slice a n c)))) ?_
  refine rp 6 (.iface 184 (.agg (brc (updv vs i vR) (.slice a n c)))) ?_
  refine rw_nil ?_
  refine nw_then ?_
  refine cw_ret ?_
  exact nw_ret_body (.iface 184 (.agg (brc (updv vs i vR) (.slice a n c)))) (fun _ => by kernel_rfl) ⟨_, rfl, ⟨updv vs i vR, _, _, _, rfl, hk.put ht, hy, hn2⟩, hB⟩
theorem bwith_any {K : Nat → Prop} {w : World} {a : Option Addr} {n c : Nat} {y : List Int} {k : Nat → Tr} {vs : Nat → Value} (hk : TK K w k vs) (hy : Sk K w a n c y) (hn2 : n ≤ 256) {ax : Option Addr} {nx cx : Nat} {x : List Int} (hx : Sk K w ax nx cx x) (hx2 : nx ≤ 256) (hK : ∀ b, w.heap.size ≤ b → K b) {aq : Option Addr} {nq cq : Nat} {q : List Int} (hq : Sk K w aq nq cq q) (hnb : Nb q)
    (hF : ∀ (i : Nat) (r : List Int), q = ((i : Nat) : Int) :: r → k i = no ∨ ∃ B, Ok B (k i) ∧ B ≤ 64 ∧ r.length ≤ B ∧ WS (k i)) :
    Calls Tryz.prog 154 #[.agg (brc vs (.slice a n c)), .slice aq nq cq, .slice ax nx cx] w fun e w' => ∃ u, e = .returned u ∧ TRs K w (put (br k y) q x) u w' := by
  cases q with
  | nil => exact bwith_nil hk hy hn2 hx hx2 hK hq hq.len.symm
  | cons i r =>
    obtain ⟨g, o, rfl, hc, hn⟩ := hq.head
    have hi := hnb.head
    obtain ⟨j, rfl⟩ := Int.eq_ofNat_of_zero_le hi.1
    exact bwith_cons hk hy hn2 hx hx2 hK (by omega) hq hn hc (hF j r rfl) hnb.tail
end Go.Proofs.YtdkpilgelgjieaaGreat

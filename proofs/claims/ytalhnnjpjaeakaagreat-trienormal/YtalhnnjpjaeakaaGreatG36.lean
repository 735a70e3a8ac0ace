/- The statement TrieNormal: behind each call, from Root on, by Nodes, just the keys and values of the document's list are found. -/
import Derived.Test.YtalhnnjpjaeakaaGreatG35
import Derived.Test.YtalhnnjpjaeakaaGreatG22
import Derived.Test.YtalhnnjpjaeakaaGreatG31
import Derived.Test.YtalhnnjpjaeakaaGreatG00
import Derived.ProofKit
import Derived.OpenShut
import Derived.ShutString
import Derived.ChangeOld
import Derived.SizedLaws
namespace Go.Proofs.YtalhnnjpjaeakaaGreat
open Go.RowKit
open Tr
open Di (dref)
set_option linter.unusedVariables false
set_option maxRecDepth 100000
namespace Tr
theorem lastN_lt (k : Nat → Tr) : ∀ n, 0 < n → lastN k n < n
  | 0, h => by omega
  | n + 1, _ => by
    simp only [lastN]
    split
    · rcases Nat.eq_zero_or_pos n with e | e
      · subst e; simp [lastN]
      · have := lastN_lt k n e; omega
    · omega
theorem sz_kid (k : Nat → Tr) : ∀ n i, i < n → sz (k i) ≤ ((List.range n).map fun j => sz (k j)).sum
  | 0, i, h => by omega
  | n + 1, i, h => by
    rw [List.range_succ, List.map_append, List.sum_append]
    simp only [List.map_cons, List.map_nil, List.sum_cons, List.sum_nil, Nat.add_zero]
    by_cases e : i = n
    · subst e; omega
    · have := sz_kid k n i (by omega); omega
theorem sz_nrm (k : Nat → Tr) (x y : List Int) : sz (nrm k x) ≤ sz (br k y) := by
  unfold nrm
  split
  · simp only [sz]; omega
  · split
    · have h1 := sz_und [(lastN k 16 : Int)] (k (lastN k 16))
      have h2 := sz_kid k 16 _ (lastN_lt k 16 (by omega))
      simp only [sz] at h1 h2 ⊢
      omega
    · simp only [sz]; omega
theorem sz_del : ∀ (t : Tr) (q : List Int), sz (del t q) ≤ sz t := by
  intro t
  induction t with
  | no => intro q; simp [del, sz]
  | leaf p x => intro q; simp [del, sz]
  | ext p c ih =>
    intro q
    have h1 := sz_und p (del c (q.drop p.length))
    have h2 := ih (q.drop p.length)
    simp only [del, sz] at h1 ⊢
    omega
  | br k x ih =>
    intro q
    cases q with
    | nil => exact sz_nrm k [] x
    | cons i r =>
      simp only [del]
      exact Nat.le_trans (sz_nrm _ x x) (sz_updB k i.toNat _ 0 x x (ih i.toNat r))
end Tr
theorem sz_delT (t : Tr) (k : List Int) : Tr.sz (delT t k) ≤ Tr.sz t := by
  unfold delT
  split
  · exact sz_del _ _
  · omega
theorem len_delR (k : List Int) : ∀ l : PList, (delR k l).length ≤ l.length
  | [] => by simp [delR]
  | e :: r => by
    have := len_delR k r
    simp only [delR]
    split
    · simp; omega
    · split <;> simp
theorem len_delL (l : PList) (k : List Int) : (delL l k).length ≤ l.length := by
  unfold delL
  split
  · exact len_delR k l
  · omega
theorem Rel.empty {t : Tr} (h : Rel t []) : t = no := by
  rcases h.ok with e | ho
  · exact e
  · obtain ⟨q, h1, _, h2⟩ := ho.some
    obtain ⟨k, k1, k2, rfl⟩ := h.e q h1 h2
    have := (h.m k (Tr.get t (Ni.nib k))).2 ⟨k1, k2, h2, rfl⟩
    simp at this
theorem nodes_mem {t : Tr} (hne : t ≠ no) (b : List Int) : b ∈ nodesP t ↔ b ∈ nmd t ++ [encT t] := by
  unfold nodesP
  rw [if_neg (fun e => hne (isNo_iff.1 e)), (insAll_spec (nmd t ++ [encT t]) [] (by simp [SrtB])).2]
  simp
theorem nmd_small : ∀ (t : Tr) {B : Nat}, Tr.Ok B t → B ≤ 64 → Vb t → (encT t).length ≤ 65540 ∧ ∀ b ∈ nmd t, b.length ≤ 65540 := by
  intro t
  induction t with
  | no => intro B h; exact h.elim
  | leaf p x => intro B h hB hv; exact ⟨by rw [encT_node h.ne]; exact (wn_all _ h hB hv).isB.2.2, fun b hb => by simp [nmd] at hb⟩
  | ext p c ih =>
    intro B h hB hv
    refine ⟨by rw [encT_node h.ne]; exact (wn_all _ h hB hv).isB.2.2, fun b hb => ?_⟩
    have q := ih h.2.2.2.2 (by omega) hv.2
    rcases List.mem_append.1 hb with e | e
    · exact q.2 b e
    · unfold nm1 at e
      split at e
      · simp at e
      · rw [List.mem_singleton.1 e]; exact q.1
  | br k x ih =>
    intro B h hB hv
    refine ⟨by rw [encT_node h.ne]; exact (wn_all _ h hB hv).isB.2.2, fun b hb => ?_⟩
    simp only [nmd, List.mem_flatMap, List.mem_range] at hb
    obtain ⟨i, hi, e⟩ := hb
    rcases h.1 i with q | ⟨_, q2, q3⟩
    · rw [q] at e; simp [isNo] at e
    · rw [if_neg (fun e => q3.ne (isNo_iff.1 e))] at e
      have q := ih i q3 (by omega) (hv.2 i hi)
      rcases List.mem_append.1 e with e | e
      · exact q.2 b e
      · unfold nm1 at e
        split at e
        · simp at e
        · rw [List.mem_singleton.1 e]; exact q.1
theorem nodes_small {K : Nat → Prop} {w : World} {g : Nat} {t : Tr} (h : Tri K w g t) : ∀ b ∈ nodesP t, b.length ≤ 65540 := by
  intro b hb
  obtain ⟨⟨v, h1, h2⟩, h3⟩ := h
  rcases h3 with rfl | ho
  · simp [nodesP, isNo] at hb
  · have q := nmd_small t ho (Nat.le_refl _) h2.vb
    rcases List.mem_append.1 ((nodes_mem ho.ne b).1 hb) with e | e
    · exact q.2 b e
    · rw [List.mem_singleton.1 e]; exact q.1
theorem Tri.vb {K : Nat → Prop} {w : World} {g : Nat} {t : Tr} (h : Tri K w g t) : Vb t := by
  obtain ⟨⟨v, h1, h2⟩, h3⟩ := h
  exact h2.vb
theorem ol_neD {ρ : Operand → Value} {w : World} {x y : Operand} {o : Oper} {ds : List Int} (ho : o.op = .binOp .neq 49 x y 49) (hx : ρ x = .agg (B8 ds)) (hy : ρ y = .agg (B8 ds)) (hl : ds.length = 32) : (execOp ρ o).run Tryz.prog w = .ok (.value (.bool false)) w := by
  have e := eqD ds ds hl hl w
  simp at e
  unfold execOp
  rw [ho]
  simp only [hx, hy]
  go_simp
theorem rootP_len2 (t : Tr) : (rootP t).length = 32 := by unfold rootP; split <;> exact dref_len _
theorem rootP_isB (t : Tr) : isB (rootP t) := by unfold rootP; split <;> exact dref_isB _
theorem Rel.klen2 {t : Tr} {l : PList} (h : Rel t l) (j : Nat) (k x : List Int) (he : l[j]? = some (k, x)) : k.length ≤ 1000000 := by
  have := ((h.m k x).1 (List.mem_of_getElem? he)).2.1
  omega
theorem kf_nil (b : Nat) : KF (.slice none 0 0) b := by simp [KF, Value.ownBlock]
set_option maxHeartbeats 8000000 in
theorem trnormal_any (a : Option Addr) (n c : Nat) (xs : List Opx) (w : World) (hO : OAt w a n xs) (hn : n ≤ 2520000000000) :
    Calls Tryz.prog 7 #[.slice a n c] w fun e w' => e = .returned (.bool true) ∧ Bl w w' := by
  have hB := Bl.refl w
  refine cw_enter Tryz.func7 rfl 91 rfl ?_
  show CW _ _ _ _ _ _ _ [(0, .slice a n c)] _
  refine cw_seq ?_
  refine cw_region ?_
  refine rp 2 (.bool false) ?_
  refine rw_nil ?_
  refine nw_then ?_
  refine cw_seq ?_
  refine cw_region ?_
  refine rw_call 12 8 #[] (fun _ => by kernel_rfl) (fun _ => by kernel_rfl) (R := fun u w' => (∃ g, u = .tuple #[.pointer (some ⟨g, 0, none⟩), .bool true] ∧ (w).heap.size ≤ g ∧ Tri An w' g no) ∧ Bl (w) w') (begun_any (K := An) (fun _ _ => trivial)) ?_
  rintro _ u1 ⟨⟨g, rfl, hgw, hT⟩, hb2⟩
  replace hB := hB.go hb2
  refine rp 11 (.tuple #[.pointer (some ⟨g, 0, none⟩), .bool true]) ?_
  refine rp 13 (.pointer (some ⟨g, 0, none⟩)) ?_
  refine rp 14 (.bool true) ?_
  refine rp 3 (.pointer (some ⟨g, 0, none⟩)) ?_
  refine rp 4 (.bool true) ?_
  refine rw_nil ?_
  refine nw_then ?_
  refine cw_seq ?_
  refine cw_seq ?_
  refine cw_region ?_
  refine rp 15 (.bool true) ?_
  refine rp 16 (.bool false) ?_
  refine rp 17 (.bool false) ?_
  refine rp 18 (.pointer (some ⟨g, 0, none⟩)) ?_
  refine rp 19 (.bool false) ?_
  refine rp 20 (.bool false) ?_
  refine rw_nil ?_
  refine nw_then ?_
  refine cw_cond_f (fun _ => by kernel_rfl) ?_
  refine cw_skip ?_
  refine nw_then ?_
  refine cw_seq ?_
  refine cw_region ?_
  refine rp 5 (.slice none 0 0) ?_
  refine rw_nil ?_
  refine nw_then ?_
  refine cw_seq ?_
  refine cw_seq ?_
  refine cw_region ?_
  refine rp 21 (.slice a n c) ?_
  refine rp 22 (.int .i64 n) ?_
  refine rp 23 (.int .i64 0) ?_
  refine rw_nil ?_
  refine nw_then ?_
  refine cw_block ?_
  refine cw_loop (X := Nat × Tr × PList × Option Addr × Nat × Nat) (fun z => [(23, .int .i64 ((z.1 : Nat) : Int)), (21, .slice a n c), (22, .int .i64 n), (3, .pointer (some ⟨g, 0, none⟩)), (5, .slice z.2.2.2.1 z.2.2.2.2.1 z.2.2.2.2.2)]) (fun z v => Bl w v ∧ Tri An v g z.2.1 ∧ (∃ vs, PAt An v z.2.2.2.1 z.2.2.2.2.1 z.2.2.2.2.2 vs z.2.2.1) ∧ Rel z.2.1 z.2.2.1 ∧ z.1 ≤ n ∧ Tr.sz z.2.1 ≤ 3 * z.1 ∧ z.2.2.1.length ≤ z.1) (fun z => n - z.1) (0, no, [], none, 0, 0) (by exact ⟨fun _ => by kernel_rfl, ⟨fun _ => by kernel_rfl, ⟨fun _ => by kernel_rfl, ⟨fun _ => by kernel_rfl, ⟨fun _ => by kernel_rfl, trivial⟩⟩⟩⟩⟩) ⟨hB, hT, ⟨_, PAt.empty _ _⟩, Rel.nil, Nat.zero_le _, by simp [Tr.sz], Nat.le_refl _⟩ ?_
  clear hB hT
  rintro ⟨j, t0, l0, aL0, nL0, cL0⟩ v ⟨hB, hT, ⟨vs0, hP⟩, hRel, hj, hz, hll⟩
  simp only at hB hT hP hRel hj hz hll
  show CW _ _ _ _ _ _ _ [(23, .int .i64 ((j : Nat) : Int)), (21, .slice a n c), (22, .int .i64 n), (3, .pointer (some ⟨g, 0, none⟩)), (5, .slice aL0 nL0 cL0)] _
  by_cases hlt : j < n
  · skip
    have hjx : j < xs.length := by rw [hO.len]; exact hlt
    obtain ⟨y, hy⟩ : ∃ y, xs[j]? = some y := ⟨_, List.getElem?_eq_getElem hjx⟩
    have hym : y ∈ xs := List.mem_of_getElem? hy
    obtain ⟨gS, oS, ea, hrow⟩ := hO.row j y hy
    subst ea
    have hk1 := (hO.k y hym).an
    have hk2 := (hO.x y hym).an
    refine cw_seq ?_
    refine cw_region ?_
    refine rv 24 (.bool true) (fun _ => ol_conv (v := .bool (decide (((j : Nat) : Int) < (n : Int)))) (by kernel_rfl) (congrArg Value.bool (decide_eq_true (by omega)))) ?_
    refine rw_nil ?_
    refine nw_then ?_
    refine cw_seq ?_
    refine cw_cond_t (fun _ => by kernel_rfl) ?_
    refine cw_skip ?_
    refine nw_then ?_
    refine cw_seq ?_
    refine cw_block ?_
    refine cw_seq ?_
    refine cw_region ?_
    refine rv 25 (.pointer (some ⟨gS, oS + j * 3, none⟩)) (fun _ => ol_index 22 _ _ gS oS j n c 3 29 rfl (by kernel_rfl) (by kernel_rfl) hlt Tryz.underlying22 (by kernel_rfl)) ?_
    refine rv 26 (.agg #[.int .i64 y.z, .slice y.ka y.kn y.kc, .slice y.va y.vn y.vc]) (fun _ => ol_mid 29 _ gS (oS + j * 3) y.cells.toList _ rfl (by kernel_rfl) (rng_go hrow hB) Tryz.underlying29 rfl (by kernel_rfl)) ?_
    refine rw_new 7 #[.int .i64 0, .slice none 0 0, .slice none 0 0] 29 (fun _ => by kernel_rfl) (fun _ => by kernel_rfl) ?_
    intro wA gA hnA
    refine rw_put gA #[.int .i64 y.z, .slice y.ka y.kn y.kc, .slice y.va y.vn y.vc] (fun _ => by kernel_rfl) (fun _ => ol_store 29 _ _ _ _ _ _ rfl (by kernel_rfl) (by kernel_rfl) hnA.row (by kernel_rfl) rfl (by kernel_rfl)) ?_
    intro wC hpC
    have hnC := hnA.put hpC
    have hgA := hnC.hg
    have htl := hT.lt
    replace hB := hB.go hnC.below
    replace hT := hT.go hnC.below
    replace hP := hP.go hnC.below
    have hrA : Rw gA wC #[.int .i64 y.z, .slice y.ka y.kn y.kc, .slice y.va y.vn y.vc] 29 := hnC.row
    refine rw_nil ?_
    refine nw_then ?_
    refine cw_seq ?_
    refine cw_seq ?_
    refine cw_region ?_
    refine rp 27 (.pointer (some ⟨gA, 0, none⟩)) ?_
    refine rv 28 (.int .i64 y.z) (fun _ => ol_cell 3 _ ⟨gA, 0, none⟩ _ _ rfl (by kernel_rfl) (by rw [cell_of_row _ _ _ _ _ _ hrA]; rfl) Tryz.underlying3 rfl) ?_
    refine rp 29 (.bool ((y.z : Int) == (1 : Int))) ?_
    refine rw_nil ?_
    refine nw_then ?_
    refine cw_cut (fun E v => ∃ t l aL nL cL vsL, E = [(23, .int .i64 ((j : Nat) : Int)), (21, .slice (some ⟨gS, oS, none⟩) n c), (22, .int .i64 n), (3, .pointer (some ⟨g, 0, none⟩)), (5, .slice aL nL cL)] ∧ Bl w v ∧ Tri An v g t ∧ PAt An v aL nL cL vsL l ∧ Rel t l ∧ Tr.sz t ≤ 3 * (j + 1) ∧ l.length ≤ j + 1) ?_ ?_
    · skip
      by_cases hz1 : y.z = 1
      · skip
        rw [show ((y.z : Int) == (1 : Int)) = true from beq_iff_eq.2 hz1]
        refine cw_cond_t (fun _ => by kernel_rfl) ?_
        refine cw_seq ?_
        refine cw_region ?_
        refine rp 30 (.pointer (some ⟨g, 0, none⟩)) ?_
        refine rp 31 (.pointer (some ⟨gA, 1, none⟩)) ?_
        refine rv 32 (.slice y.ka y.kn y.kc) (fun _ => ol_cell 27 _ ⟨gA, 1, none⟩ _ _ rfl (by kernel_rfl) (by rw [cell_of_row _ _ _ _ _ _ hrA]; rfl) Tryz.underlying27 rfl) ?_
        refine rw_call 33 12 #[.pointer (some ⟨g, 0, none⟩), .slice y.ka y.kn y.kc] (fun _ => by kernel_rfl) (fun _ => by kernel_rfl) (R := fun u w' => (∃ b z, u = .tuple #[.bool b, .int .i64 z]) ∧ Tri An w' g (delT t0 y.k) ∧ Touch g (wC) w') ((tdel_any hT (hk1.go hB) (fun _ _ => trivial))) ?_
        rintro _ u3 ⟨⟨bD, zD, rfl⟩, hTn, hto⟩
        have hgl := hT.lt
        replace hP := hP.touch hto hT
        replace hrA := hrA.touch hto (by have := hT.lt; omega)
        replace hB : Bl w u3 := hto.below hB hgw hB.size
        replace hT := hTn
        refine rw_nil ?_
        refine nw_then ?_
        refine cw_region ?_
        refine rp 35 (.slice aL0 nL0 cL0) ?_
        refine rp 36 (.pointer (some ⟨gA, 1, none⟩)) ?_
        refine rv 37 (.slice y.ka y.kn y.kc) (fun _ => ol_cell 27 _ ⟨gA, 1, none⟩ _ _ rfl (by kernel_rfl) (by rw [cell_of_row _ _ _ _ _ _ hrA]; rfl) Tryz.underlying27 rfl) ?_
        refine rw_call 38 23 #[.slice aL0 nL0 cL0, .slice y.ka y.kn y.kc] (fun _ => by kernel_rfl) (fun _ => by kernel_rfl) (R := fun u w' => (∃ a n c vs b z, u = .tuple #[.slice a n c, .bool b, .int .i64 z] ∧ PAt An w' a n c vs (delL l0 y.k)) ∧ Bl (u3) w') (((rdel_any hP (hk1.go hB) (by have := hP.ll; omega) hRel.klen2).mono (fun e w' ⟨u, e1, ⟨a, n, c, vs, e2, e3⟩, e4⟩ => ⟨u, e1, ⟨a, n, c, vs, _, _, e2, e3.mono (fun _ _ => trivial)⟩, e4⟩))) ?_
        rintro _ u4 ⟨⟨aL2, nL2, cL2, vs2, bR, zR, rfl, hPn⟩, hb5⟩
        clear hP
        replace hB := hB.go hb5
        replace hT := hT.go hb5
        replace hrA := hrA.go hb5
        have hP := hPn
        clear hPn
        refine rp 34 (.tuple #[.slice aL2 nL2 cL2, .bool bR, .int .i64 zR]) ?_
        refine rp 39 (.slice aL2 nL2 cL2) ?_
        refine rp 40 (.bool bR) ?_
        refine rp 41 (.int .i64 zR) ?_
        refine rp 5 (.slice aL2 nL2 cL2) ?_
        refine rw_nil ?_
        have hz2 := sz_delT t0 y.k
        have hl2 := len_delL l0 y.k
        exact nw_cut [(23, .int .i64 ((j : Nat) : Int)), (21, .slice (some ⟨gS, oS, none⟩) n c), (22, .int .i64 n), (3, .pointer (some ⟨g, 0, none⟩)), (5, .slice aL2 nL2 cL2)] (by exact ⟨fun _ => by kernel_rfl, ⟨fun _ => by kernel_rfl, ⟨fun _ => by kernel_rfl, ⟨fun _ => by kernel_rfl, ⟨fun _ => by kernel_rfl, trivial⟩⟩⟩⟩⟩) ⟨delT t0 y.k, delL l0 y.k, aL2, nL2, cL2, vs2, rfl, hB, hT, hP, hRel.del (k := y.k) hk1.ag.b, by omega, by omega⟩
      · skip
        rw [show ((y.z : Int) == (1 : Int)) = false from beq_eq_false_iff_ne.2 hz1]
        refine cw_cond_f (fun _ => by kernel_rfl) ?_
        refine cw_seq ?_
        refine cw_region ?_
        refine rp 42 (.pointer (some ⟨g, 0, none⟩)) ?_
        refine rp 43 (.pointer (some ⟨gA, 1, none⟩)) ?_
        refine rv 44 (.slice y.ka y.kn y.kc) (fun _ => ol_cell 27 _ ⟨gA, 1, none⟩ _ _ rfl (by kernel_rfl) (by rw [cell_of_row _ _ _ _ _ _ hrA]; rfl) Tryz.underlying27 rfl) ?_
        refine rp 45 (.pointer (some ⟨gA, 2, none⟩)) ?_
        refine rv 46 (.slice y.va y.vn y.vc) (fun _ => ol_cell 27 _ ⟨gA, 2, none⟩ _ _ rfl (by kernel_rfl) (by rw [cell_of_row _ _ _ _ _ _ hrA]; rfl) Tryz.underlying27 rfl) ?_
        refine rw_call 47 11 #[.pointer (some ⟨g, 0, none⟩), .slice y.ka y.kn y.kc, .slice y.va y.vn y.vc] (fun _ => by kernel_rfl) (fun _ => by kernel_rfl) (R := fun u w' => u = .int .i64 (putE y.k y.x) ∧ Tri An w' g (putT t0 y.k y.x) ∧ Touch g (wC) w') ((tput_any hT (hk1.go hB) (hk2.go hB) (fun _ _ => trivial))) ?_
        rintro _ u6 ⟨rfl, hTn, hto⟩
        have hgl := hT.lt
        replace hP := hP.touch hto hT
        replace hrA := hrA.touch hto (by have := hT.lt; omega)
        replace hB : Bl w u6 := hto.below hB hgw hB.size
        replace hT := hTn
        refine rw_nil ?_
        refine nw_then ?_
        refine cw_region ?_
        refine rp 49 (.slice aL0 nL0 cL0) ?_
        refine rp 50 (.pointer (some ⟨gA, 1, none⟩)) ?_
        refine rv 51 (.slice y.ka y.kn y.kc) (fun _ => ol_cell 27 _ ⟨gA, 1, none⟩ _ _ rfl (by kernel_rfl) (by rw [cell_of_row _ _ _ _ _ _ hrA]; rfl) Tryz.underlying27 rfl) ?_
        refine rp 52 (.pointer (some ⟨gA, 2, none⟩)) ?_
        refine rv 53 (.slice y.va y.vn y.vc) (fun _ => ol_cell 27 _ ⟨gA, 2, none⟩ _ _ rfl (by kernel_rfl) (by rw [cell_of_row _ _ _ _ _ _ hrA]; rfl) Tryz.underlying27 rfl) ?_
        refine rw_call 54 16 #[.slice aL0 nL0 cL0, .slice y.ka y.kn y.kc, .slice y.va y.vn y.vc] (fun _ => by kernel_rfl) (fun _ => by kernel_rfl) (R := fun u w' => (∃ a n c vs, u = .tuple #[.slice a n c, .int .i64 (putE y.k y.x)] ∧ PAt An w' a n c vs (putL l0 y.k y.x)) ∧ Bl (u6) w') (((rput_any hP (hk1.go hB) (by have := hP.ll; omega) (hk2.go hB) hRel.klen2).mono (fun e w' ⟨u, e1, ⟨a, n, c, vs, e2, e3⟩, e4⟩ => ⟨u, e1, ⟨a, n, c, vs, e2, e3.mono (fun _ _ => trivial)⟩, e4⟩))) ?_
        rintro _ u7 ⟨⟨aL2, nL2, cL2, vs2, rfl, hPn⟩, hb8⟩
        clear hP
        replace hB := hB.go hb8
        replace hT := hT.go hb8
        replace hrA := hrA.go hb8
        have hP := hPn
        clear hPn
        refine rp 48 (.tuple #[.slice aL2 nL2 cL2, .int .i64 (putE y.k y.x)]) ?_
        refine rp 55 (.slice aL2 nL2 cL2) ?_
        refine rp 56 (.int .i64 (putE y.k y.x)) ?_
        refine rp 5 (.slice aL2 nL2 cL2) ?_
        refine rw_nil ?_
        have hz2 := sz_putT t0 y.k y.x
        have hl2 := len_putL l0 y.k y.x
        exact nw_cut [(23, .int .i64 ((j : Nat) : Int)), (21, .slice (some ⟨gS, oS, none⟩) n c), (22, .int .i64 n), (3, .pointer (some ⟨g, 0, none⟩)), (5, .slice aL2 nL2 cL2)] (by exact ⟨fun _ => by kernel_rfl, ⟨fun _ => by kernel_rfl, ⟨fun _ => by kernel_rfl, ⟨fun _ => by kernel_rfl, ⟨fun _ => by kernel_rfl, trivial⟩⟩⟩⟩⟩) ⟨putT t0 y.k y.x, putL l0 y.k y.x, aL2, nL2, cL2, vs2, rfl, hB, hT, hP, hRel.put (k := y.k) (x := y.x) hk1.ag.b, by omega, by omega⟩
    clear hB hT hP hRel hz hll
    rintro _ v ⟨t, l, aL, nL, cL, vsL, rfl, hB, hT, hP, hRel, hz, hll⟩
    refine nw_then ?_
    refine cw_seq ?_
    refine cw_region ?_
    refine rp 57 (.pointer (some ⟨g, 0, none⟩)) ?_
    have hM : (nmd t).length + 1 ≤ 7600000000000 := by have := nmd_le t; omega
    refine rw_call 58 20 #[.pointer (some ⟨g, 0, none⟩)] (fun _ => by kernel_rfl) (fun _ => by kernel_rfl) (R := RNo (v) t) (nodes_any hT hM) ?_
    rintro _ u9 ⟨⟨aN, nN, cN, rfl, hN, hNb, hNn⟩, hb10⟩
    replace hB := hB.go hb10
    replace hT := hT.go hb10
    replace hP := hP.go hb10
    refine rp 8 (.slice aN nN cN) ?_
    refine rw_nil ?_
    refine nw_then ?_
    refine cw_seq ?_
    refine cw_seq ?_
    refine cw_region ?_
    refine rp 59 (.slice aN nN cN) ?_
    have hsm := nodes_small hT
    have hlN := hN.len
    refine rw_call 60 24 #[.slice aN nN cN] (fun _ => by kernel_rfl) (fun _ => by kernel_rfl) (R := fun u w' => (∃ b, u = .bool b ∧ (b = true → Unl (nodesP t) nN)) ∧ Bl (u9) w') ((unlike_any hN (by omega) (fun j hj => hsm _ (by rw [List.getD, List.getElem?_eq_getElem (by omega)]; exact List.getElem_mem _)))) ?_
    rintro _ u11 ⟨⟨bU, rfl, hU⟩, hb12⟩
    replace hB := hB.go hb12
    replace hT := hT.go hb12
    replace hP := hP.go hb12
    replace hN := hN.go hb12
    refine rp 61 (.bool (!bU)) ?_
    refine rw_nil ?_
    refine nw_then ?_
    cases bU with
    | false =>
      refine cw_cond_t (fun _ => by kernel_rfl) ?_
      refine cw_seq ?_
      refine cw_region ?_
      refine rp 2 (.bool true) ?_
      refine rw_nil ?_
      refine nw_then ?_
      refine cw_ret ?_
      refine nw_ret_then ?_
      refine nw_ret_block ?_
      refine nw_ret_then ?_
      refine nw_ret_then ?_
      refine nw_ret_block ?_
      refine nw_ret_then ?_
      exact nw_ret_body (.bool true) (fun _ => by kernel_rfl) ⟨rfl, hB⟩
    | true =>
      refine cw_cond_f (fun _ => by kernel_rfl) ?_
      refine cw_skip ?_
      refine nw_then ?_
      refine cw_seq ?_
      refine cw_seq ?_
      refine cw_region ?_
      refine rp 62 (.slice aL nL cL) ?_
      refine rp 63 (.int .i64 nL) ?_
      refine rp 64 (.bool ((nL : Int) == (0 : Int))) ?_
      refine rw_nil ?_
      refine nw_then ?_
      have hll2 := hP.ll
      by_cases hn0 : nL = 0
      · skip
        rw [show ((nL : Int) == (0 : Int)) = true from beq_iff_eq.2 (by omega)]
        obtain rfl : l = [] := List.eq_nil_of_length_eq_zero (by omega)
        obtain rfl := hRel.empty
        have hnN : nN = 0 := by rw [← hlN]; rfl
        have hdl := rootP_len2 no
        obtain ⟨ds, hds⟩ : ∃ ds, rootP no = ds := ⟨_, rfl⟩
        rw [hds] at hdl
        have hem : dref [128] = ds := hds
        refine cw_cond_t (fun _ => by kernel_rfl) ?_
        refine cw_seq ?_
        refine cw_seq ?_
        refine cw_region ?_
        refine rp 65 (.slice aN nN cN) ?_
        refine rp 66 (.int .i64 nN) ?_
        refine rv 67 (.bool false) (fun _ => ol_conv (v := .bool (!((nN : Int) == (0 : Int)))) (by kernel_rfl) (congrArg Value.bool (by rw [hnN]; rfl))) ?_
        refine rp 68 (.bool false) ?_
        refine rp 69 (.pointer (some ⟨g, 0, none⟩)) ?_
        refine rw_call 70 18 #[.pointer (some ⟨g, 0, none⟩)] (fun _ => by kernel_rfl) (fun _ => by kernel_rfl) (R := fun u w' => u = .agg (B8 ds) ∧ Bl (u11) w') (((root_any hT hM).mono (fun e w' ⟨u, e1, e2, e3⟩ => ⟨u, e1, by rw [e2, hds], e3⟩))) ?_
        rintro _ u13 ⟨rfl, hb14⟩
        replace hB := hB.go hb14
        replace hT := hT.go hb14
        replace hP := hP.go hb14
        replace hN := hN.go hb14
        refine rw_call 71 25 #[] (fun _ => by kernel_rfl) (fun _ => by kernel_rfl) (R := fun u w' => u = .agg (B8 ds) ∧ Bl (u13) w') (((remptyRoot_any (u13)).mono (fun e w' h => ⟨_, by rw [h.1, hem], rfl, h.2⟩))) ?_
        rintro _ u15 ⟨rfl, hb16⟩
        replace hB := hB.go hb16
        replace hT := hT.go hb16
        replace hP := hP.go hb16
        replace hN := hN.go hb16
        refine rv 72 (.bool false) (fun _ => ol_neD rfl (by kernel_rfl) (by kernel_rfl) hdl) ?_
        refine rp 73 (.bool false) ?_
        refine rw_nil ?_
        refine nw_then ?_
        refine cw_cond_f (fun _ => by kernel_rfl) ?_
        refine cw_skip ?_
        refine nw_then ?_
        refine cw_exit ?_
        refine nw_exit_then ?_
        refine nw_exit_here ?_
        refine nw_then ?_
        refine cw_region ?_
        refine rv 90 (.int .i64 (((j : Nat) : Int) + 1)) (fun _ => ol_conv (v := .int .i64 (IntKind.i64.wrap (((j : Nat) : Int) + 1))) (by kernel_rfl) (congrArg (Value.int .i64) (wrap64 (by omega) (by omega)))) ?_
        refine rp 23 (.int .i64 (((j : Nat) : Int) + 1)) ?_
        refine rw_nil ?_
        exact nw_round (E := fun z => [(23, .int .i64 ((z.1 : Nat) : Int)), (21, .slice (some ⟨gS, oS, none⟩) n c), (22, .int .i64 n), (3, .pointer (some ⟨g, 0, none⟩)), (5, .slice z.2.2.2.1 z.2.2.2.2.1 z.2.2.2.2.2)]) (R := fun z v => Bl w v ∧ Tri An v g z.2.1 ∧ (∃ vs, PAt An v z.2.2.2.1 z.2.2.2.2.1 z.2.2.2.2.2 vs z.2.2.1) ∧ Rel z.2.1 z.2.2.1 ∧ z.1 ≤ n ∧ Tr.sz z.2.1 ≤ 3 * z.1 ∧ z.2.2.1.length ≤ z.1) (μ := fun z => n - z.1) (x := (j, t0, l0, aL0, nL0, cL0)) (j + 1, no, [], aL, nL, cL) (by exact ⟨fun _ => by kernel_rfl, ⟨fun _ => by kernel_rfl, ⟨fun _ => by kernel_rfl, ⟨fun _ => by kernel_rfl, ⟨fun _ => by kernel_rfl, trivial⟩⟩⟩⟩⟩) ⟨hB, hT, ⟨_, hP⟩, hRel, hlt, hz, hll⟩ (by show n - (j + 1) < n - j; omega)
      · skip
        rw [show ((nL : Int) == (0 : Int)) = false from beq_eq_false_iff_ne.2 (by omega)]
        have hne : t ≠ no := fun e => by subst e; have h := hRel.ents; rw [show entsF [] no = [] from rfl] at h; rw [← h] at hll2; simp at hll2; omega
        have hok := hRel.ok.resolve_left hne
        have hdl := rootP_len2 t
        obtain ⟨ds, hds⟩ : ∃ ds, rootP t = ds := ⟨_, rfl⟩
        rw [hds] at hdl
        have hdt : ds = dref (encT t) := by rw [← hds]; unfold rootP; rw [if_neg (fun e => hne (isNo_iff.1 e))]
        refine cw_cond_f (fun _ => by kernel_rfl) ?_
        refine cw_skip ?_
        refine nw_then ?_
        refine cw_seq ?_
        refine cw_region ?_
        refine rp 75 (.slice aN nN cN) ?_
        refine rp 76 (.pointer (some ⟨g, 0, none⟩)) ?_
        refine rw_call 77 18 #[.pointer (some ⟨g, 0, none⟩)] (fun _ => by kernel_rfl) (fun _ => by kernel_rfl) (R := fun u w' => u = .agg (B8 ds) ∧ Bl (u11) w') (((root_any hT hM).mono (fun e w' ⟨u, e1, e2, e3⟩ => ⟨u, e1, by rw [e2, hds], e3⟩))) ?_
        rintro _ u17 ⟨rfl, hb18⟩
        replace hB := hB.go hb18
        replace hT := hT.go hb18
        replace hP := hP.go hb18
        replace hN := hN.go hb18
        refine rv 78 (.agg (RV.cells ⟨2, ds, none, 0, 0⟩).toArray) (fun _ => ol_build 62 _ [(0, .int .i64 2), (1, .agg (B8 ds))] _ rfl (by kernel_rfl) (built_R2d ds hdl)) ?_
        have hNds : Nds (nodesP t) := ⟨hlN ▸ hU rfl, hsm, by omega⟩
        have hag0 : Sk (KF (.slice none 0 0)) (u17) none 0 0 [] := ⟨ag_nil _, fun x hx => by cases hx⟩
        have hOw : OwnL (fun _ => True) (u17) (u17).heap.size (.slice none 0 0) [] := ⟨fun _ _ => trivial, [], rfl, ⟨rfl, .inl ⟨rfl, rfl⟩⟩, fun j p e q => by simp at q⟩
        have hRa : RefAt (KF (.slice none 0 0)) (u17) ⟨2, ds, none, 0, 0⟩ ⟨2, ds, []⟩ := ⟨rfl, rfl, by rw [← hds]; exact rootP_isB t, hdl, ag_nil _, Nat.zero_le _, fun _ _ e => by cases e⟩
        refine rw_call 79 26 #[.slice none 0 0, .slice aN nN cN, .agg (RV.cells ⟨2, ds, none, 0, 0⟩).toArray, .slice none 0 0, .bool true, .bool false] (fun _ => by kernel_rfl) (fun _ => by kernel_rfl) (R := RFd (u17) (.slice none 0 0) (u17).heap.size ([] ++ entsF [] t)) ((found_all hNds t (y := ⟨2, ds, none, 0, 0⟩) (r := ⟨2, ds, []⟩) hOw (Nat.le_refl _) ⟨hN.mono (fun b _ => kf_nil b), fun x _ _ => kf_nil _⟩ hag0 hRa (.inr ⟨rfl, hdt, (nodes_mem hne _).2 (by simp), .inl rfl⟩) (fun e => by cases e) hok (Nat.le_refl _) hT.vb hRel.kys (fun b hb => (nodes_mem hne b).2 (List.mem_append.2 (.inl hb))) (by rw [hRel.ents]; simp; omega))) ?_
        rintro _ u19 ⟨vM, rfl, hOM, hGM⟩
        have hbF := hGM.bl rfl
        replace hB := hB.go hbF
        replace hT := hT.go hbF
        replace hP := hP.go hbF
        replace hN := hN.go hbF
        rw [List.nil_append, hRel.ents] at hOM
        obtain ⟨aM, cM, vsM, eM, hPM⟩ := hOM.pat
        rw [hP.ll] at eM hPM
        subst eM
        refine rp 74 (.tuple #[.slice aM nL cM, .bool true]) ?_
        refine rp 80 (.slice aM nL cM) ?_
        refine rp 81 (.bool true) ?_
        refine rp 9 (.slice aM nL cM) ?_
        refine rp 10 (.bool true) ?_
        refine rw_nil ?_
        refine nw_then ?_
        refine cw_seq ?_
        refine cw_region ?_
        refine rp 82 (.bool true) ?_
        refine rp 83 (.bool false) ?_
        refine rp 84 (.bool false) ?_
        refine rp 85 (.slice aM nL cM) ?_
        refine rp 86 (.slice aL nL cL) ?_
        refine rw_call 87 27 #[.slice aM nL cM, .slice aL nL cL] (fun _ => by kernel_rfl) (fun _ => by kernel_rfl) (R := fun u w' => u = .bool true ∧ Bl (u19) w') ((rsame_same hPM hP (by omega))) ?_
        rintro _ u20 ⟨rfl, hb21⟩
        replace hB := hB.go hb21
        replace hT := hT.go hb21
        replace hP := hP.go hb21
        replace hN := hN.go hb21
        replace hPM := hPM.go hb21
        refine rp 88 (.bool false) ?_
        refine rp 89 (.bool false) ?_
        refine rw_nil ?_
        refine nw_then ?_
        refine cw_cond_f (fun _ => by kernel_rfl) ?_
        refine cw_skip ?_
        refine nw_block ?_
        refine nw_then ?_
        refine cw_region ?_
        refine rv 90 (.int .i64 (((j : Nat) : Int) + 1)) (fun _ => ol_conv (v := .int .i64 (IntKind.i64.wrap (((j : Nat) : Int) + 1))) (by kernel_rfl) (congrArg (Value.int .i64) (wrap64 (by omega) (by omega)))) ?_
        refine rp 23 (.int .i64 (((j : Nat) : Int) + 1)) ?_
        refine rw_nil ?_
        exact nw_round (E := fun z => [(23, .int .i64 ((z.1 : Nat) : Int)), (21, .slice (some ⟨gS, oS, none⟩) n c), (22, .int .i64 n), (3, .pointer (some ⟨g, 0, none⟩)), (5, .slice z.2.2.2.1 z.2.2.2.2.1 z.2.2.2.2.2)]) (R := fun z v => Bl w v ∧ Tri An v g z.2.1 ∧ (∃ vs, PAt An v z.2.2.2.1 z.2.2.2.2.1 z.2.2.2.2.2 vs z.2.2.1) ∧ Rel z.2.1 z.2.2.1 ∧ z.1 ≤ n ∧ Tr.sz z.2.1 ≤ 3 * z.1 ∧ z.2.2.1.length ≤ z.1) (μ := fun z => n - z.1) (x := (j, t0, l0, aL0, nL0, cL0)) (j + 1, t, l, aL, nL, cL) (by exact ⟨fun _ => by kernel_rfl, ⟨fun _ => by kernel_rfl, ⟨fun _ => by kernel_rfl, ⟨fun _ => by kernel_rfl, ⟨fun _ => by kernel_rfl, trivial⟩⟩⟩⟩⟩) ⟨hB, hT, ⟨_, hP⟩, hRel, hlt, hz, hll⟩ (by show n - (j + 1) < n - j; omega)
  obtain rfl : j = n := by omega
  show CW _ _ _ _ _ _ _ [(23, .int .i64 ((j : Nat) : Int)), (21, .slice a j c), (22, .int .i64 ((j : Nat) : Int)), (3, .pointer (some ⟨g, 0, none⟩)), (5, .slice aL0 nL0 cL0)] _
  refine cw_seq ?_
  refine cw_region ?_
  refine rv 24 (.bool false) (fun _ => ol_conv (v := .bool (decide (((j : Nat) : Int) < ((j : Nat) : Int)))) (by kernel_rfl) (congrArg Value.bool (decide_eq_false (by omega)))) ?_
  refine rw_nil ?_
  refine nw_then ?_
  refine cw_seq ?_
  refine cw_cond_f (fun _ => by kernel_rfl) ?_
  refine cw_exit ?_
  refine nw_exit_then ?_
  refine nw_exit_then ?_
  refine nw_exit_here ?_
  refine nw_then ?_
  refine cw_seq ?_
  refine cw_region ?_
  refine rp 2 (.bool true) ?_
  refine rw_nil ?_
  refine nw_then ?_
  refine cw_ret ?_
  exact nw_ret_body (.bool true) (fun _ => by kernel_rfl) ⟨rfl, hB⟩
end Go.Proofs.YtalhnnjpjaeakaaGreat
/- How a slice of bytes that is handed in reads as data: nil, or a row of bytes that takes no more than the form's own reach. -/
namespace Go.Proofs.YtalhnnjpjaeakaaGreat
open Go.ChangeShapes Go.WideShapes Go.ChangeAt Go.RowKit
open Go.ChangeMaps (open_string shut_string)
set_option linter.unusedVariables false
set_option maxRecDepth 100000
theorem own : ownKnob Tryz.prog.godebug = none := by kernel_rfl
theorem laidOut : laidOutB Tryz.prog = true := by kernel_rfl
theorem cells5 : Tryz.prog.cellsOf 5 = 1 := by kernel_rfl
theorem bytes5 : Tryz.prog.bytesOf 5 = 1 := by kernel_rfl
end Go.Proofs.YtalhnnjpjaeakaaGreat
/- How a list of calls on a trie that is handed in reads as data, how many they are and how long their keys and values. -/
namespace Go.Proofs.YtalhnnjpjaeakaaGreat
open Go.ChangeShapes Go.WideShapes Go.ChangeAt Go.RowKit
set_option linter.unusedVariables false
set_option maxRecDepth 100000
theorem cellsOP : Tryz.prog.cellsOf 29 = 3 := by kernel_rfl
theorem cells3 : Tryz.prog.cellsOf 3 = 1 := by kernel_rfl
theorem cellsB : Tryz.prog.cellsOf 27 = 1 := by kernel_rfl
theorem bytesOP : Tryz.prog.bytesOf 29 = 56 := by kernel_rfl
section
variable {H : Type} {enc : TypeId × Value → H} {w : World} {held : Bool}
theorem open_agF {fuel : Nat} {cs : List Value} {x : DataW H × List MemPlace} (hf : DataW.trod enc Tryz.prog w 0 (fun _ => true) held fuel 27 cs = some x)
    (hsz : ∀ n ∈ x.1.weights Tryz.prog 27, n ≤ reachBytes) : ∃ a len cap bs, cs = [.slice a len cap] ∧ Ag w a len cap bs ∧ len ≤ 140737488351232 := by
  rcases open_ints Tryz.underlying27 Tryz.underlying5 cells5 hf with ⟨hcs, _⟩ | ⟨p, len, cap, zs, hcs, _, hl, hm, hz, hx, hcell, hwz⟩
  · exact ⟨none, 0, 0, [], hcs, ⟨.inl ⟨rfl, rfl⟩, fun _ => ⟨rfl, rfl⟩, rfl, fun x hx => by cases hx⟩, by omega⟩
  · have hz2 : zs.length = cap := by simpa using hz
    have hsz2 := hsz ((zs.take len).length + (zs.drop len).length) (by
      rw [hx]
      simp only [DataW.weights, Tryz.underlying27, lits, List.length_map, bytes5, Nat.mul_one]
      exact List.mem_cons_self ..)
    simp only [List.length_take, List.length_drop, reachBytes] at hsz2
    have hlen : (zs.take len).length = len := by rw [List.length_take]; omega
    have hbd : ∀ n ∈ zs.take len, 0 ≤ n ∧ n < 256 := fun n hn => by
      have := bounds_u8 (hwz n (List.mem_of_mem_take hn))
      omega
    refine ⟨some p, len, cap, zs.take len, hcs, ⟨?_, (fun h => by cases h), hlen, hbd⟩, by omega⟩
    by_cases h0 : len = 0
    · subst h0
      exact .inl ⟨rfl, by simp⟩
    · obtain ⟨b, off, spot⟩ := p
      have hc := hcell 0 (by omega)
      have hspot : spot = none := by simpa [Addr.add] using World.cell?_spot hc
      subst hspot
      refine .inr ⟨b, off, rfl, hlen, by omega, hl, hm, fun j hj => ?_⟩
      rw [hlen] at hj
      have := hcell j (by omega)
      rw [addr_add] at this
      rw [this, List.getD, List.getD, List.getElem?_take_of_lt hj]
theorem weights_all {e : TypeId} : ∀ {ds : List (DataW H)} {d : DataW H}, d ∈ ds → ∀ n ∈ d.weights Tryz.prog e, n ∈ DataW.weightsAll Tryz.prog e ds
  | [], d, h, _, _ => by cases h
  | d0 :: r, d, h, n, hn => by
    rw [DataW.weightsAll, List.mem_append]
    rcases List.mem_cons.1 h with rfl | h
    · exact .inl hn
    · exact .inr (weights_all h n hn)
theorem split111 {cs : List Value} (h : cs.length = 3) : cs = (cs.drop 0).take 1 ++ ((cs.drop 1).take 1 ++ (cs.drop 2).take 1) := by
  match cs, h with
  | [a, b, c], _ => rfl
theorem open_opF {fuel : Nat} {cs : List Value} {x : DataW H × List MemPlace} (hf : DataW.trod enc Tryz.prog w 0 (fun _ => true) held fuel 29 cs = some x)
    (hsz : ∀ n ∈ x.1.weights Tryz.prog 29, n ≤ reachBytes) : ∃ y : Opx, cs = y.cells.toList ∧ Ag w y.ka y.kn y.kc y.k ∧ Ag w y.va y.vn y.vc y.x ∧ y.kn ≤ 140737488355328 ∧ y.vn ≤ 140737488355328 := by
  obtain ⟨xs, n, hfu, hx, hcl, hxl, hel⟩ := DataW.trod_struct Tryz.underlying29 hf
  rw [cellsOP] at hcl
  have e0 := hel 0 _ rfl
  have e1 := hel 1 _ rfl
  have e2 := hel 2 _ rfl
  have hxl3 : xs.length = 3 := hxl
  obtain ⟨x0, x1, x2, rfl⟩ : ∃ x0 x1 x2, xs = [x0, x1, x2] := by
    match xs, hxl3 with
    | [a, b, c], _ => exact ⟨a, b, c, rfl⟩
  subst hx
  have f0 : DataW.trod enc Tryz.prog w 0 (fun _ => true) held n 3 ((cs.drop 0).take (Tryz.prog.cellsOf 3)) = some x0 := e0
  have f1 : DataW.trod enc Tryz.prog w 0 (fun _ => true) held n 27 ((cs.drop 1).take (Tryz.prog.cellsOf 27)) = some x1 := e1
  have f2 : DataW.trod enc Tryz.prog w 0 (fun _ => true) held n 27 ((cs.drop 2).take (Tryz.prog.cellsOf 27)) = some x2 := e2
  rw [cells3] at f0
  rw [cellsB] at f1
  rw [cellsB] at f2
  obtain ⟨k, hk, _, _⟩ := DataW.trod_int Tryz.underlying3 f0
  obtain ⟨a1, m1, c1, b1, hb1, hag1, hl1⟩ := open_agF f1 (fun k hk => hsz k (by
    show k ∈ (DataW.agg [x0.1, x1.1, x2.1]).weights Tryz.prog 29
    simp only [DataW.weights, Tryz.underlying29]
    simp only [List.map, DataW.weightsEach, List.mem_append]
    exact .inr (.inl hk)))
  obtain ⟨a2, m2, c2, b2, hb2, hag2, hl2⟩ := open_agF f2 (fun k hk => hsz k (by
    show k ∈ (DataW.agg [x0.1, x1.1, x2.1]).weights Tryz.prog 29
    simp only [DataW.weights, Tryz.underlying29]
    simp only [List.map, DataW.weightsEach, List.mem_append]
    exact .inr (.inr (.inl hk))))
  refine ⟨⟨k, a1, m1, c1, a2, m2, c2, b1, b2⟩, ?_, hag1, hag2, by show m1 ≤ _; omega, by show m2 ≤ _; omega⟩
  rw [split111 (cs := cs) hcl, hk, hb1, hb2]
  rfl
theorem open_opsF {fuel : Nat} {cs : List Value} {x : DataW H × List MemPlace} (hf : DataW.trod enc Tryz.prog w 0 (fun _ => true) held fuel 22 cs = some x)
    (hsz : ∀ n ∈ x.1.weights Tryz.prog 22, n ≤ reachBytes) : ∃ a m c xs, cs = [.slice a m c] ∧ OAt w a m xs ∧ m ≤ 2520000000000 ∧ ∀ y ∈ xs, y.kn ≤ 140737488355328 ∧ y.vn ≤ 140737488355328 := by
  rcases DataW.trod_slice Tryz.underlying22 hf with ⟨hcs, _⟩ | ⟨p, len, cap, elems, rest, n, hfu, hcs, hx, _, hl, hm, hlen, hel, _, _⟩
  · exact ⟨none, 0, 0, [], hcs, ⟨rfl, fun j r hr => by simp at hr, (fun x hx => by cases hx), fun x hx => by cases hx⟩, by omega, fun x hx => by cases hx⟩
  · subst hx
    have hw : (DataW.slice (elems.map (·.1)) (rest.map (·.1))).weights Tryz.prog 22 = ((elems.map (·.1)).length + (rest.map (·.1)).length) * Tryz.prog.bytesOf 29 :: (DataW.weightsAll Tryz.prog 29 (elems.map (·.1)) ++ DataW.weightsAll Tryz.prog 29 (rest.map (·.1))) := by
      simp only [DataW.weights, Tryz.underlying22]
    have hszw : ∀ n ∈ (DataW.slice (elems.map (·.1)) (rest.map (·.1))).weights Tryz.prog 22, n ≤ reachBytes := hsz
    rw [hw] at hszw
    clear hsz
    have hsz1 := hszw _ (List.mem_cons_self ..)
    rw [bytesOP, List.length_map, List.length_map, hlen] at hsz1
    unfold reachBytes at hsz1
    have hthing : ∀ i, i < len → ∃ y : Opx, (∀ k, k < 3 → w.cell? ((p.add (i * 3)).add k) = y.cells.toList[k]?) ∧ Ag w y.ka y.kn y.kc y.k ∧ Ag w y.va y.vn y.vc y.x ∧ y.kn ≤ 140737488355328 ∧ y.vn ≤ 140737488355328 := by
      intro i hi
      have he := hel i hi
      rw [cellsOP, List.getElem?_eq_getElem (by omega), Option.bind_eq_some_iff] at he
      obtain ⟨cs', hc1, hc2⟩ := he
      obtain ⟨_, hc3, hc4⟩ := World.cells?_some hc1
      obtain ⟨y, hcs', hr⟩ := open_opF hc2 (fun k hk => hszw k (List.mem_cons_of_mem _ (List.mem_append_left _ (weights_all (List.mem_map_of_mem (List.getElem_mem _)) k hk))))
      refine ⟨y, ?_, hr⟩
      rw [hcs'] at hc4
      exact hc4
    have hspot : 0 < len → p.spot = none := by
      intro h
      obtain ⟨y, hc, hr⟩ := hthing 0 h
      have c0 := hc 0 (by omega)
      rw [show y.cells.toList[0]? = some (.int .i64 y.z) from rfl] at c0
      simpa [Addr.add] using World.cell?_spot c0
    have hall : ∀ d k, k + d = len → ∃ ks : List Opx, ks.length = d ∧ (∀ j r, ks[j]? = some r → ∃ g off, (some p : Option Addr) = some ⟨g, off, none⟩ ∧ w.rangeAt g (off + (k + j) * 3) r.cells.toList) ∧ ∀ y ∈ ks, Ag w y.ka y.kn y.kc y.k ∧ Ag w y.va y.vn y.vc y.x ∧ y.kn ≤ 140737488355328 ∧ y.vn ≤ 140737488355328 := by
      intro d
      induction d with
      | zero => intro k _; exact ⟨[], rfl, (fun j r hr => by simp at hr), fun x hx => by cases hx⟩
      | succ d ihd =>
        intro k hk
        obtain ⟨ks, h1, h2, h3⟩ := ihd (k + 1) (by omega)
        obtain ⟨y, hc, hr⟩ := hthing k (by omega)
        refine ⟨y :: ks, by rw [List.length_cons, h1], fun j s hs => ?_, fun x hx => ?_⟩
        · cases j with
          | zero =>
            simp at hs
            subst hs
            obtain ⟨g, off, spot⟩ := p
            have hsp : spot = none := hspot (by omega)
            subst hsp
            refine ⟨g, off, rfl, fun i u hu => ?_⟩
            have hi : i < 3 := (List.getElem?_eq_some_iff.1 hu).1
            have := hc i hi
            rw [addr_add, addr_add, hu] at this
            exact this
          | succ j =>
            obtain ⟨g, off, e, h3⟩ := h2 j s (by simpa using hs)
            rw [show k + 1 + j = k + (j + 1) from by omega] at h3
            exact ⟨g, off, e, h3⟩
        · rcases List.mem_cons.1 hx with rfl | hx
          · exact hr
          · exact h3 x hx
    obtain ⟨ks, h1, h2, h3⟩ := hall len 0 (by omega)
    refine ⟨some p, len, cap, ks, hcs, ⟨h1, fun j r hr => ?_, fun y hy => (h3 y hy).1, fun y hy => (h3 y hy).2.1⟩, by omega, fun y hy => (h3 y hy).2.2⟩
    obtain ⟨g, off, e, h3⟩ := h2 j r hr
    rw [Nat.zero_add] at h3
    exact ⟨g, off, e, h3⟩
end
theorem open_ops {H : Type} {enc : TypeId × Value → H} {w : World} {b0 : Nat} {r : Reach} {held : Bool} {v : Value} {d : DataW H} {p : List MemPlace}
    (hv : Value.okWide Tryz.prog w r b0 22 v) (h : DataW.Trod enc Tryz.prog w 0 (fun _ => true) held 22 v d p)
    (hsz : ∀ n ∈ d.weights Tryz.prog 22, n ≤ reachBytes) : ∃ a m c xs, v = .slice a m c ∧ OAt w a m xs ∧ m ≤ 2520000000000 ∧ ∀ y ∈ xs, y.kn ≤ 140737488355328 ∧ y.vn ≤ 140737488355328 := by
  obtain ⟨a, len, cap, rfl⟩ := okWide_slice Tryz.underlying22 hv
  obtain ⟨fuel, hf⟩ := h
  obtain ⟨a', m, c, xs, hcs, hx⟩ := open_opsF hf hsz
  simp [Value.cells] at hcs
  obtain ⟨rfl, rfl, rfl⟩ := hcs
  exact ⟨_, _, _, xs, rfl, hx⟩
theorem sized_at {H : Type} {ts : List TypeId} {ds : List (DataW H)} (h : (DataW.weightsEach Tryz.prog ts ds).all (· ≤ reachBytes) = true) {j : Nat} {t : TypeId} {d : DataW H} (ht : ts[j]? = some t) (hd : ds[j]? = some d) : ∀ n ∈ d.weights Tryz.prog t, n ≤ reachBytes := by
  intro n hn
  have := List.all_eq_true.1 h n (DataW.weights_mem_each ht hd n hn)
  simpa using this
end Go.Proofs.YtalhnnjpjaeakaaGreat

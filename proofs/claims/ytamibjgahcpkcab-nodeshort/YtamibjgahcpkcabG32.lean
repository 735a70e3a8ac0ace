/- What Refer answers of fewer than 32 bytes. -/
import Derived.Test.YtamibjgahcpkcabG21
import Derived.Test.YtamibjgahcpkcabG30
import Derived.Test.YtamibjgahcpkcabG31
namespace Go.Proofs.Ytamibjgahcpkcab
open Go.RowKit
set_option linter.unusedVariables false
set_option maxRecDepth 100000
theorem results_one {fn : Func} {p : Tmp} (h : fn.results = #[.cell p 26]) (tmps : Array Value) (w : World) (g : Nat) (y : RV) (hl : y.d.length = 32) (hp : tmps.getD p undef = .pointer (some ⟨g, 0, none⟩)) (hg : w.heap[g]? = some (.cells y.cells.toArray 26)) :
    (results fn tmps).run Try.prog w = .ok (.agg y.cells.toArray) w :=
  results_cell_row h tmps w g 26 y.cells.toArray (0, 0) _ hp hg Try.underlying26 rfl (infoR' hl)
set_option maxHeartbeats 4000000 in
theorem refer_short (a : Option Addr) (n c : Nat) (b : List Int) (w : World) (h : Ag w a n c b) (hn : n < 32) :
    Calls Try.prog 10 #[.slice a n c] w fun e w' => (∃ y : RV, e = .returned (.agg y.cells.toArray) ∧ RefAt (Own w.heap.size w') w' y ⟨1, z32, b⟩) ∧ Below w.heap.size w w' := by
  have hmk := run_make_row' (P := Try.prog) 22 5 (.int .u8 0) 1 Try.underlying22 info5b rfl .i64 .i64 n (by omega) (by omega)
  obtain ⟨w0, hw0⟩ : ∃ w0, w.alloc (.cells rz.cells.toArray 26) = w0 := ⟨_, rfl⟩
  have hs0 : w0.heap.size = w.heap.size + 1 := by rw [← hw0]; simp
  have hbw0 : Below w.heap.size w w0 := by rw [← hw0]; exact below_new _ _
  have hres : w0.heap[w.heap.size]? = some (.cells rz.cells.toArray 26) := by rw [← hw0]; exact heap_alloc_new _ _
  have hrow : Row w0.heap.size (w0.alloc (.cells (madeCells #[.int .u8 0] n) 5)) (List.replicate n 0) := by
    unfold Row; rw [heap_alloc_new, made_bytes]
  have hbw : Below w.heap.size w (w0.alloc (.cells (madeCells #[.int .u8 0] n) 5)) := hbw0.alloc (by omega) _
  obtain ⟨w1, hrun, hrow1, ht⟩ := copy_row (o := 0) (dl := n) (dc := n) (da := some ⟨w0.heap.size, 0, none⟩) hrow (h.at hbw) rfl (by simp) (fun _ => rfl)
  rw [List.take_zero, List.nil_append, Nat.zero_add, List.drop_of_length_le (by simp), List.append_nil] at hrow1
  have hres1 : w1.heap[w.heap.size]? = some (.cells rz.cells.toArray 26) := (ht.block _ (by simp; omega) (by omega)).trans ((Below.heap_alloc _ _ _ (by omega)).trans hres)
  have hb1 := Touch.below hbw ht (by omega) hbw.size
  have HRUN := Hid.mk hrun
  have HROW := Hid.mk hrow1
  have HB := Hid.mk hb1
  have HRES := Hid.mk hres1
  have HD0 := Hid.mk hbw0
  have HS0 := Hid.mk hs0
  have HLB := Hid.mk h.l
  have HBB := Hid.mk h.b
  have h32 : ¬ (n : Int) ≥ 32 := by omega
  clear hrow hrun hrow1 ht hbw h hbw0 hres hres1 hb1 hs0
  go_enter Try.func10, Try.ntmps10
  go_upto_region 1 with fail
  rw [show (w.alloc (.cells #[.int .i64 0, .int .u8 0, .int .u8 0, .int .u8 0, .int .u8 0, .int .u8 0, .int .u8 0, .int .u8 0, .int .u8 0, .int .u8 0, .int .u8 0, .int .u8 0, .int .u8 0, .int .u8 0, .int .u8 0, .int .u8 0, .int .u8 0, .int .u8 0, .int .u8 0, .int .u8 0, .int .u8 0, .int .u8 0, .int .u8 0, .int .u8 0, .int .u8 0, .int .u8 0, .int .u8 0, .int .u8 0, .int .u8 0, .int .u8 0, .int .u8 0, .int .u8 0, .int .u8 0, .slice none 0 0] 26)) = w0 from hw0]
  clear hw0
  go_wp2_with (first | refine wpl_copy rfl _ _ rfl _ _ rfl rfl (HRUN.out _) ?_ | refine wpList_store_row rfl 26 _ _ rfl _ (RV.cells ⟨1, z32, some ⟨w0.heap.size, 0, none⟩, n, n⟩).toArray rfl rfl 26 _ HRES.out (infoR' rfl) (rz_size rfl) (all_oneCell_toArray (RV.one _)) ?_)
  refine bodyPost_ret (results_one Try.results10 _ _ w.heap.size ⟨1, z32, some ⟨w0.heap.size, 0, none⟩, n, n⟩ rfl rfl (setRow_heap _ _ _ _ _ _ HRES.out)) rfl ?_
  have hne : w0.heap.size ≠ w.heap.size := by have := HS0.out; omega
  have hr2 : Row w0.heap.size (w1.setRow w.heap.size (RV.cells ⟨1, z32, some ⟨w0.heap.size, 0, none⟩, n, n⟩).toArray) b := (setRow_other _ _ _ _ hne).trans HROW.out
  refine ⟨⟨⟨1, z32, some ⟨w0.heap.size, 0, none⟩, n, n⟩, rfl, rfl, rfl, isB_z32, rfl, row_ag (n := n) hr2 HLB.out HBB.out (by omega), by show n ≤ _; omega, fun g off e _ => ?_⟩, Below.setRow HB.out (Nat.le_refl _) _⟩
  cases e
  exact ⟨by have := HS0.out; omega, fun o => frozen_of_row _ _ _ _ _ hr2⟩
end Go.Proofs.Ytamibjgahcpkcab
/- A row of references appended to one; how long the bytes of a branch are. -/
namespace Go.Proofs.Ytamibjgahcpkcab
open Go.RowKit
set_option linter.unusedVariables false
set_option maxRecDepth 100000
theorem flatR_one' (y : RV) (ys : List RV) : flatR (y :: ys) = y.cells ++ flatR ys := by unfold flatR; rw [List.flatMap_cons]
theorem flatR_cell {ys : List RV} (h : ∀ y ∈ ys, y.d.length = 32) : ∀ u ∈ flatR ys, u.oneCell' = true := by
  intro u hu
  unfold flatR at hu
  obtain ⟨y, hy, hu⟩ := List.mem_flatMap.1 hu
  exact y.one u hu
/-- The values of a node's kids, as a row. -/
theorem kids_row {K : Nat → Prop} {w : World} {g off : Nat} : ∀ {ks : List PR} (k : Nat), (∀ j r, ks[j]? = some r → ∃ y : RV, w.rangeAt g (off + (k + j) * 34) y.cells ∧ RefAt K w y r) → ∃ zs : List RV, RefsAt K w zs ks ∧ ∀ j u, (flatR zs)[j]? = some u → w.cell? ⟨g, off + k * 34 + j, none⟩ = some u
  | [], k, _ => ⟨[], ⟨rfl, (fun y hy => by cases hy), fun i y r h => by simp at h⟩, fun j u h => by simp [flatR] at h⟩
  | r :: l, k, h => by
    obtain ⟨y, hy1, hy2⟩ := h 0 r rfl
    obtain ⟨zs, h1, h2⟩ := kids_row (k + 1) (ks := l) fun j s hs => by
      obtain ⟨z, z1, z2⟩ := h (j + 1) s (by simpa using hs)
      rw [show k + (j + 1) = k + 1 + j from by omega] at z1
      exact ⟨z, z1, z2⟩
    refine ⟨y :: zs, ⟨by simp [h1.1], fun z hz => ?_, fun i z s e1 e2 => ?_⟩, fun j u hu => ?_⟩
    · rcases List.mem_cons.1 hz with rfl | hz
      · exact hy2.len
      · exact h1.2.1 z hz
    · cases i with
      | zero => simp at e1 e2; rw [← e1, ← e2]; exact hy2
      | succ i => exact h1.2.2 i z s (by simpa using e1) (by simpa using e2)
    · rw [flatR_one'] at hu
      by_cases hj : j < 34
      · rw [List.getElem?_append_left (by rw [RV.len hy2.len]; exact hj)] at hu
        exact hy1 j u hu
      · rw [List.getElem?_append_right (by rw [RV.len hy2.len]; omega), RV.len hy2.len] at hu
        have := h2 (j - 34) u hu
        rw [show off + (k + 1) * 34 + (j - 34) = off + k * 34 + j from by omega] at this
        exact this
section
variable {w : World} {ops : Array Oper} {rest : List Oper} {o : Oper} {a : Act} {Q : Exit → Act → World → Prop}
theorem wpl_appendR (hgd : o.guard = none) (s x : Operand) (ho : o.op = .call { callee := .builtin .append, args := #[s, x], argTypes := #[27, 27] }) (v u : Value) (hd : a.eval s = v) (hx : a.eval x = u) {v' : Value} {w' : World}
    (hr : (Builtin.append_ #[27, 27] o.type #[v, u]).run Try.prog w = .ok v' w') (h : wpList Try.prog ops Q rest (a.put o.dst v') w') : wpList Try.prog ops Q (o :: rest) a w := by
  refine wpList_plain hgd fun K hK => ?_
  unfold Oper.wp
  simp [execOp, ho, resolve, invoke, builtin, hd, hx, hr, Result.andThen]
  exact hK _ _ h
end
/-- The child and the kids, in one new row. -/
theorem all_refs {K : Nat → Prop} {w v : World} {x : NV} {n : PN} (h : NodeAt K w x n) (hb : Below w.heap.size w v) (hks : n.ks.length ≤ 100) (ty : TypeId) :
    ∃ (g cap : Nat) (ys : List RV) (w' : World), (Builtin.append_ #[27, 27] ty #[.slice (some ⟨v.heap.size, 0, none⟩) 1 1, .slice x.ka x.kn x.kc]).run Try.prog (v.alloc (.cells x.c.cells.toArray 26)) = .ok (.slice (some ⟨g, 0, none⟩) (x.kn + 1) cap) w' ∧
      RefsAt K w ys (n.c :: n.ks) ∧ (∀ j y, ys[j]? = some y → w'.rangeAt g (j * 34) y.cells) ∧ Below v.heap.size v w' ∧ x.kn + 1 ≤ cap ∧ cap ≤ maxLen := by
  obtain ⟨iR, hi, hz, hsz, hby⟩ := infoRz
  obtain ⟨hm1, hm2, hm3, hm4, hm5⟩ := h.m
  have hkn : x.kn ≤ 100 := by omega
  have hcl := h.c.len
  have hown : (v.alloc (.cells x.c.cells.toArray 26)).ownsRow v.heap.size 26 34 (.slice (some ⟨v.heap.size, 0, none⟩) 1 1) 1 x.c.cells :=
    ⟨by rw [RV.len hcl], .inr ⟨v.heap.size, 1, x.c.cells.toArray, rfl, Nat.le_refl _, heap_alloc_new _ _, Nat.le_refl _, by unfold maxLen; omega, by rw [List.size_toArray, RV.len hcl], by rw [List.take_of_length_le (by rw [RV.len hcl]; omega)]⟩⟩
  obtain ⟨zs, hra, hcs, v', w', hrun, hown', hgb⟩ : ∃ zs : List RV, RefsAt K w zs n.ks ∧ True ∧ ∃ v' w', (Builtin.append_ #[27, 27] ty #[.slice (some ⟨v.heap.size, 0, none⟩) 1 1, .slice x.ka x.kn x.kc]).run Try.prog (v.alloc (.cells x.c.cells.toArray 26)) = .ok v' w' ∧ w'.ownsRow v.heap.size 26 34 v' (1 + x.kn) (x.c.cells ++ flatR zs) ∧ Below v.heap.size v w' := by
    cases hka : x.ka with
    | none =>
      obtain ⟨hk0, hc0⟩ := hm5 hka
      have hks0 : n.ks = [] := List.eq_nil_of_length_eq_zero (by omega)
      refine ⟨[], by rw [hks0]; exact ⟨rfl, (fun y hy => by cases hy), fun i y r h => by simp at h⟩, trivial, .slice (some ⟨v.heap.size, 0, none⟩) 1 1, v.alloc (.cells x.c.cells.toArray 26), ?_, ?_, below_new _ _⟩
      · rw [hk0, hc0]
        exact run_append_owned_none (P := Try.prog) (w := v.alloc (.cells x.c.cells.toArray 26)) v.heap.size 27 ty 26 iR 34 Try.underlying27 hi _ 1 _ hown
      · rw [hk0, show flatR [] = [] from rfl, List.append_nil]; exact hown
    | some ad =>
      obtain ⟨zs, hra, hcell⟩ : ∃ zs : List RV, RefsAt K w zs n.ks ∧ ∀ j u, (flatR zs)[j]? = some u → w.cell? (ad.add j) = some u := by
        by_cases h0 : n.ks = []
        · rw [h0]; exact ⟨[], ⟨rfl, (fun y hy => by cases hy), fun i y r h => by simp at h⟩, fun j u h => by simp [flatR] at h⟩
        · obtain ⟨g, off, y0, ha, -⟩ := h.ks 0 (n.ks[0]'(List.length_pos_iff.2 h0)) (List.getElem?_eq_getElem _)
          rw [hka] at ha
          cases ha
          obtain ⟨zs, z1, z2⟩ := kids_row (K := K) (w := w) (g := g) (off := off) (ks := n.ks) 0 fun j r hr => by
            obtain ⟨g', off', y, ha, _, hrg, hy⟩ := h.ks j r hr
            rw [hka] at ha
            cases ha
            rw [Nat.zero_add]
            exact ⟨y, hrg, hy⟩
          refine ⟨zs, z1, fun j u hu => ?_⟩
          have := z2 j u hu
          rw [addr_add]
          rwa [Nat.zero_mul, Nat.add_zero] at this
      have hzl : zs.length = x.kn := by rw [← hra.1, hm1]
      have hw' : ∀ j u, (flatR zs)[j]? = some u → (v.alloc (.cells x.c.cells.toArray 26)).cell? (ad.add j) = some u := fun j u hu => by
        have h1 := hcell j u hu
        exact (World.cell?_of_block (w := w) ((below_go hb (below_new v _)).block _ (block_lt_of_cell h1))).trans h1
      obtain ⟨v', w', hrun, hown', hgr, _⟩ := run_append_own (P := Try.prog) (v.alloc (.cells x.c.cells.toArray 26)) v.heap.size 27 ty 26 iR _ 34 64 Try.underlying27 hi hz hsz hby rfl (by decide) _ 1 x.c.cells hown ad x.kn x.kc (flatR zs) (by rw [flatR_len hra.2.1, hzl]) hw' (flatR_cell hra.2.1) (by unfold maxLen; omega) (by omega) (by simp)
      refine ⟨zs, hra, trivial, v', w', hrun, hown', (below_new v _).grown hgr (by simp) (fun k hk => ?_)⟩
      cases hk
      exact Nat.le_refl _
  have hzl : zs.length = x.kn := by rw [← hra.1, hm1]
  rcases hown'.2 with ⟨_, h0⟩ | ⟨g, cap, cur, rfl, hgb', hgr, hnc, hcm, hcz, htk⟩
  · omega
  · refine ⟨g, cap, x.c :: zs, w', by rw [Nat.add_comm] at hrun; exact hrun, ?_, fun j y hj k u hu => ?_, hgb, by omega, hcm⟩
    · refine ⟨by simp [hra.1], fun z hz => ?_, fun i z s e1 e2 => ?_⟩
      · rcases List.mem_cons.1 hz with rfl | hz
        · exact hcl
        · exact hra.2.1 z hz
      · cases i with
        | zero => simp at e1 e2; rw [← e1, ← e2]; exact h.c
        | succ i => exact hra.2.2 i z s (by simpa using e1) (by simpa using e2)
    · have hjl : j < (x.c :: zs).length := (List.getElem?_eq_some_iff.1 hj).1
      have hall : ∀ z ∈ x.c :: zs, z.d.length = 32 := fun z hz => by
        rcases List.mem_cons.1 hz with rfl | hz
        · exact hcl
        · exact hra.2.1 z hz
      have hyl : y.d.length = 32 := hall y (List.mem_of_getElem? hj)
      have hk34 : k < 34 := by have := (List.getElem?_eq_some_iff.1 hu).1; rwa [RV.len hyl] at this
      have e : x.c :: zs = (x.c :: zs).take j ++ y :: (x.c :: zs).drop (j + 1) := by
        have ey := (List.getElem?_eq_some_iff.1 hj).2
        rw [← ey, ← List.drop_eq_getElem_cons hjl, List.take_append_drop]
      have hl : ((x.c :: zs).take j).length = j := by rw [List.length_take]; omega
      have hf := flat_at (pre := (x.c :: zs).take j) (post := (x.c :: zs).drop (j + 1)) (fun z hz => hall z (List.mem_of_mem_take hz)) hu
      rw [hl, ← e, flatR_one', ← htk] at hf
      rw [cell_of_row _ _ _ _ _ _ hgr, ← Array.getElem?_toList]
      have hlt : j * 34 + k < (1 + x.kn) * 34 := by simp at hjl; omega
      rwa [List.getElem?_take_of_lt hlt] at hf
theorem branch_len {n : PN} (ho : okN n) (h : NR n = true) (hk : n.k = 3) : 18 ≤ (NE n).length ∧ ∀ r ∈ n.ks, (enc (refItemP r)).length + 17 ≤ (NE n).length := by
  rcases NR_parts h with ⟨hk', _⟩ | ⟨hk', _⟩ | ⟨_, h1, h2, h3, h4, h5, h6, h7⟩
  · omega
  · omega
  · have e : itemP n = .mk true [] (n.ks.map refItemP ++ [.mk false n.v []]) := by unfold itemP; rw [if_pos hk]
    have hl : (NE n).length = (hd 192 (encs (n.ks.map refItemP ++ [T.mk false n.v []])).length).length + (encs (n.ks.map refItemP ++ [T.mk false n.v []])).length := by
      unfold NE
      rw [e]
      have e2 := encL (t := .mk true [] (n.ks.map refItemP ++ [.mk false n.v []])) rfl rfl
      rw [show (T.mk true [] (n.ks.map refItemP ++ [.mk false n.v []])).its = n.ks.map refItemP ++ [.mk false n.v []] from rfl] at e2
      exact (congrArg List.length e2).trans (List.length_append ..)
    have hp := hd_pos 192 (encs (n.ks.map refItemP ++ [T.mk false n.v []])).length
    have hc := encs_count (n.ks.map refItemP ++ [T.mk false n.v []])
    have h17 : (n.ks.map refItemP ++ [T.mk false n.v []]).length = 17 := by simp [h5]
    refine ⟨by omega, fun r hr => ?_⟩
    have := encs_mem_len (its := n.ks.map refItemP ++ [T.mk false n.v []]) (u := refItemP r) (List.mem_append_left _ (List.mem_map_of_mem hr))
    omega
/-- What is inline in a right node: it is read, it is named as it is, and a branch within a branch is none that is inline. -/
theorem inline_in {n : PN} (ho : okN n) (h : NR n = true) {r : PR} (hr : r ∈ n.c :: n.ks) (hk : r.k = 1) : ∃ m, ND r.i = some m ∧ r = ⟨1, z32, r.i⟩ ∧ r.i.length < 32 ∧ isB r.i ∧ (n.k = 3 → m.k = 3 → ¬ (NE n).length < 32) := by
  have hrr : rrefP KD r = true ∧ okR r := by
    rcases List.mem_cons.1 hr with rfl | hr
    · rcases NR_parts h with ⟨_, _, _, _, _, h5, _, _⟩ | ⟨_, _, _, _, _, h5, _, _⟩ | ⟨_, _, _, h5, _, _, _, _⟩ <;> exact ⟨h5, ho.2.2.1⟩
    · rcases NR_parts h with ⟨_, _, _, _, _, _, _, h7⟩ | ⟨_, _, _, _, _, _, _, h7⟩ | ⟨_, _, _, _, _, _, h7, _⟩
      · rw [h7] at hr; cases hr
      · rw [h7] at hr; cases hr
      · exact ⟨h7 r hr, ho.2.2.2 r hr⟩
  rcases rref_cases hrr.1 with c | c | ⟨_, c2, c3, c4⟩
  · omega
  · omega
  · obtain ⟨m, hm, _⟩ := KD_some c4
    refine ⟨m, hm, PR.ext hk c2 rfl, c3, hrr.2.2.2, fun h3 hm3 hlt => ?_⟩
    obtain ⟨l1, l2⟩ := branch_len ho h h3
    have hrk : r ∈ n.ks := by
      rcases List.mem_cons.1 hr with rfl | hr
      · rcases NR_parts h with h | h | h
        · omega
        · omega
        · have := h.2.2.2.2.1; omega
      · exact hr
    have hl := l2 r hrk
    obtain ⟨m1, m2, m3⟩ := node_only hrr.2.2.2 hm
    have he : refItemP r = itemP m := by unfold refItemP; rw [if_pos hk, m3]
    have hNE : enc (refItemP r) = r.i := by rw [he]; exact m2
    have hbm := (branch_len (node_okN hrr.2.2.2 hm) m1 hm3).1
    rw [m2] at hbm
    rw [hNE] at hl
    omega
end Go.Proofs.Ytamibjgahcpkcab

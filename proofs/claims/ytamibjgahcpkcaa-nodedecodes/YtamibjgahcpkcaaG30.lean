/- A row of references appended to one; how long the bytes of a branch are. -/
import Derived.Test.YtamibjgahcpkcaaG20
import Derived.Test.YtamibjgahcpkcaaG26
import Derived.Test.YtamibjgahcpkcaaG29
import Derived.Test.YtamibjgahcpkcaaG18
import Derived.Test.YtamibjgahcpkcaaG14
namespace Go.Proofs.Ytamibjgahcpkcaa
open Go.RowKit
set_option linter.unusedVariables false
set_option maxRecDepth 100000
theorem flatR_one' (y : RV) (ys : List RV) : flatR (y :: ys) = y.cells ++ flatR ys := by unfold flatR; rw [List.flatMap_cons]
theorem flatR_cell {ys : List RV} (h : ∀ y ∈ ys, y.d.length = 32) : ∀ u ∈ flatR ys, u.oneCell' = true := by
  intro u hu
  unfold flatR at hu
  obtain ⟨y, hy, hu⟩ := List.mem_flatMap.1 hu
  exact y.one u hu
/-- The values of a node's kids, as a row. -/
theorem kids_row {K : Nat → Prop} {w : World} {g off : Nat} : ∀ {ks : List PR} (k : Nat), (∀ j r, ks[j]? = some r → ∃ y : RV, w.rangeAt g (off + (k + j) * 34) y.cells ∧ RefAt K w y r) → ∃ zs : List RV, RefsAt K w zs ks ∧ ∀ j u, (flatR zs)[j]? = some u → w.cell? ⟨g, off + k * 34 + j, none⟩ = some u
  | [], k, _ => ⟨[], ⟨rfl, (fun y hy => by cases hy), fun i y r h => by simp at h⟩, fun j u h => by simp [flatR] at h⟩
  | r :: l, k, h => by
    obtain ⟨y, hy1, hy2⟩ := h 0 r rfl
    obtain ⟨zs, h1, h2⟩ := kids_row (k + 1) (ks := l) fun j s hs => by
      obtain ⟨z, z1, z2⟩ := h (j + 1) s (by simpa using hs)
      rw [show k + (j + 1) = k + 1 + j from by omega] at z1
      exact ⟨z, z1, z2⟩
    refine ⟨y :: zs, ⟨by simp [h1.1], fun z hz => ?_, fun i z s e1 e2 => ?_⟩, fun j u hu => ?_⟩
    · rcases List.mem_cons.1 hz with rfl | hz
      · exact hy2.len
      · exact h1.2.1 z hz
    · cases i with
      | zero => simp at e1 e2; rw [← e1, ← e2]; exact hy2
      | succ i => exact h1.2.2 i z s (by simpa using e1) (by simpa using e2)
    · rw [flatR_one'] at hu
      by_cases hj : j < 34
      · rw [List.getElem?_append_left (by rw [RV.len hy2.len]; exact hj)] at hu
        exact hy1 j u hu
      · rw [List.getElem?_append_right (by rw [RV.len hy2.len]; omega), RV.len hy2.len] at hu
        have := h2 (j - 34) u hu
        rw [show off + (k + 1) * 34 + (j - 34) = off + k * 34 + j from by omega] at this
        exact this
section
variable {w : World} {ops : Array Oper} {rest : List Oper} {o : Oper} {a : Act} {Q : Exit → Act → World → Prop}
theorem wpl_appendR (hgd : o.guard = none) (s x : Operand) (ho : o.op = .call { callee := .builtin .append, args := #[s, x], argTypes := #[27, 27] }) (v u : Value) (hd : a.eval s = v) (hx : a.eval x = u) {v' : Value} {w' : World}
    (hr : (Builtin.append_ #[27, 27] o.type #[v, u]).run Try.prog w = .ok v' w') (h : wpList Try.prog ops Q rest (a.put o.dst v') w') : wpList Try.prog ops Q (o :: rest) a w := by
  refine wpList_plain hgd fun K hK => ?_
  unfold Oper.wp
  simp [execOp, ho, resolve, invoke, builtin, hd, hx, hr, Result.andThen]
  exact hK _ _ h
end
/-- The child and the kids, in one new row. -/
theorem all_refs {K : Nat → Prop} {w v : World} {x : NV} {n : PN} (h : NodeAt K w x n) (hb : Below w.heap.size w v) (hks : n.ks.length ≤ 100) (ty : TypeId) :
    ∃ (g cap : Nat) (ys : List RV) (w' : World), (Builtin.append_ #[27, 27] ty #[.slice (some ⟨v.heap.size, 0, none⟩) 1 1, .slice x.ka x.kn x.kc]).run Try.prog (v.alloc (.cells x.c.cells.toArray 26)) = .ok (.slice (some ⟨g, 0, none⟩) (x.kn + 1) cap) w' ∧
      RefsAt K w ys (n.c :: n.ks) ∧ (∀ j y, ys[j]? = some y → w'.rangeAt g (j * 34) y.cells) ∧ Below v.heap.size v w' ∧ x.kn + 1 ≤ cap ∧ cap ≤ maxLen := by
  obtain ⟨iR, hi, hz, hsz, hby⟩ := infoRz
  obtain ⟨hm1, hm2, hm3, hm4, hm5⟩ := h.m
  have hkn : x.kn ≤ 100 := by omega
  have hcl := h.c.len
  have hown : (v.alloc (.cells x.c.cells.toArray 26)).ownsRow v.heap.size 26 34 (.slice (some ⟨v.heap.size, 0, none⟩) 1 1) 1 x.c.cells :=
    ⟨by rw [RV.len hcl], .inr ⟨v.heap.size, 1, x.c.cells.toArray, rfl, Nat.le_refl _, heap_alloc_new _ _, Nat.le_refl _, by unfold maxLen; omega, by rw [List.size_toArray, RV.len hcl], by rw [List.take_of_length_le (by rw [RV.len hcl]; omega)]⟩⟩
  obtain ⟨zs, hra, hcs, v', w', hrun, hown', hgb⟩ : ∃ zs : List RV, RefsAt K w zs n.ks ∧ True ∧ ∃ v' w', (Builtin.append_ #[27, 27] ty #[.slice (some ⟨v.heap.size, 0, none⟩) 1 1, .slice x.ka x.kn x.kc]).run Try.prog (v.alloc (.cells x.c.cells.toArray 26)) = .ok v' w' ∧ w'.ownsRow v.heap.size 26 34 v' (1 + x.kn) (x.c.cells ++ flatR zs) ∧ Below v.heap.size v w' := by
    cases hka : x.ka with
    | none =>
      obtain ⟨hk0, hc0⟩ := hm5 hka
      have hks0 : n.ks = [] := List.eq_nil_of_length_eq_zero (by omega)
      refine ⟨[], by rw [hks0]; exact ⟨rfl, (fun y hy => by cases hy), fun i y r h => by simp at h⟩, trivial, .slice (some ⟨v.heap.size, 0, none⟩) 1 1, v.alloc (.cells x.c.cells.toArray 26), ?_, ?_, below_new _ _⟩
      · rw [hk0, hc0]
        exact run_append_owned_none (P := Try.prog) (w := v.alloc (.cells x.c.cells.toArray 26)) v.heap.size 27 ty 26 iR 34 Try.underlying27 hi _ 1 _ hown
      · rw [hk0, show flatR [] = [] from rfl, List.append_nil]; exact hown
    | some ad =>
      obtain ⟨zs, hra, hcell⟩ : ∃ zs : List RV, RefsAt K w zs n.ks ∧ ∀ j u, (flatR zs)[j]? = some u → w.cell? (ad.add j) = some u := by
        by_cases h0 : n.ks = []
        · rw [h0]; exact ⟨[], ⟨rfl, (fun y hy => by cases hy), fun i y r h => by simp at h⟩, fun j u h => by simp [flatR] at h⟩
        · obtain ⟨g, off, y0, ha, -⟩ := h.ks 0 (n.ks[0]'(List.length_pos_iff.2 h0)) (List.getElem?_eq_getElem _)
          rw [hka] at ha
          cases ha
          obtain ⟨zs, z1, z2⟩ := kids_row (K := K) (w := w) (g := g) (off := off) (ks := n.ks) 0 fun j r hr => by
            obtain ⟨g', off', y, ha, _, hrg, hy⟩ := h.ks j r hr
            rw [hka] at ha
            cases ha
            rw [Nat.zero_add]
            exact ⟨y, hrg, hy⟩
          refine ⟨zs, z1, fun j u hu => ?_⟩
          have := z2 j u hu
          rw [addr_add]
          rwa [Nat.zero_mul, Nat.add_zero] at this
      have hzl : zs.length = x.kn := by rw [← hra.1, hm1]
      have hw' : ∀ j u, (flatR zs)[j]? = some u → (v.alloc (.cells x.c.cells.toArray 26)).cell? (ad.add j) = some u := fun j u hu => by
        have h1 := hcell j u hu
        exact (World.cell?_of_block (w := w) ((below_go hb (below_new v _)).block _ (block_lt_of_cell h1))).trans h1
      obtain ⟨v', w', hrun, hown', hgr, _⟩ := run_append_own (P := Try.prog) (v.alloc (.cells x.c.cells.toArray 26)) v.heap.size 27 ty 26 iR _ 34 64 Try.underlying27 hi hz hsz hby rfl (by decide) _ 1 x.c.cells hown ad x.kn x.kc (flatR zs) (by rw [flatR_len hra.2.1, hzl]) hw' (flatR_cell hra.2.1) (by unfold maxLen; omega) (by omega) (by simp)
      refine ⟨zs, hra, trivial, v', w', hrun, hown', (below_new v _).grown hgr (by simp) (fun k hk => ?_)⟩
      cases hk
      exact Nat.le_refl _
  have hzl : zs.length = x.kn := by rw [← hra.1, hm1]
  rcases hown'.2 with ⟨_, h0⟩ | ⟨g, cap, cur, rfl, hgb', hgr, hnc, hcm, hcz, htk⟩
  · omega
  · refine ⟨g, cap, x.c :: zs, w', by rw [Nat.add_comm] at hrun; exact hrun, ?_, fun j y hj k u hu => ?_, hgb, by omega, hcm⟩
    · refine ⟨by simp [hra.1], fun z hz => ?_, fun i z s e1 e2 => ?_⟩
      · rcases List.mem_cons.1 hz with rfl | hz
        · exact hcl
        · exact hra.2.1 z hz
      · cases i with
        | zero => simp at e1 e2; rw [← e1, ← e2]; exact h.c
        | succ i => exact hra.2.2 i z s (by simpa using e1) (by simpa using e2)
    · have hjl : j < (x.c :: zs).length := (List.getElem?_eq_some_iff.1 hj).1
      have hall : ∀ z ∈ x.c :: zs, z.d.length = 32 := fun z hz => by
        rcases List.mem_cons.1 hz with rfl | hz
        · exact hcl
        · exact hra.2.1 z hz
      have hyl : y.d.length = 32 := hall y (List.mem_of_getElem? hj)
      have hk34 : k < 34 := by have := (List.getElem?_eq_some_iff.1 hu).1; rwa [RV.len hyl] at this
      have e : x.c :: zs = (x.c :: zs).take j ++ y :: (x.c :: zs).drop (j + 1) := by
        have ey := (List.getElem?_eq_some_iff.1 hj).2
        rw [← ey, ← List.drop_eq_getElem_cons hjl, List.take_append_drop]
      have hl : ((x.c :: zs).take j).length = j := by rw [List.length_take]; omega
      have hf := flat_at (pre := (x.c :: zs).take j) (post := (x.c :: zs).drop (j + 1)) (fun z hz => hall z (List.mem_of_mem_take hz)) hu
      rw [hl, ← e, flatR_one', ← htk] at hf
      rw [cell_of_row _ _ _ _ _ _ hgr, ← Array.getElem?_toList]
      have hlt : j * 34 + k < (1 + x.kn) * 34 := by simp at hjl; omega
      rwa [List.getElem?_take_of_lt hlt] at hf
theorem branch_len {n : PN} (ho : okN n) (h : NR n = true) (hk : n.k = 3) : 18 ≤ (NE n).length ∧ ∀ r ∈ n.ks, (enc (refItemP r)).length + 17 ≤ (NE n).length := by
  rcases NR_parts h with ⟨hk', _⟩ | ⟨hk', _⟩ | ⟨_, h1, h2, h3, h4, h5, h6, h7⟩
  · omega
  · omega
  · have e : itemP n = .mk true [] (n.ks.map refItemP ++ [.mk false n.v []]) := by unfold itemP; rw [if_pos hk]
    have hl : (NE n).length = (hd 192 (encs (n.ks.map refItemP ++ [T.mk false n.v []])).length).length + (encs (n.ks.map refItemP ++ [T.mk false n.v []])).length := by
      unfold NE
      rw [e]
      have e2 := encL (t := .mk true [] (n.ks.map refItemP ++ [.mk false n.v []])) rfl rfl
      rw [show (T.mk true [] (n.ks.map refItemP ++ [.mk false n.v []])).its = n.ks.map refItemP ++ [.mk false n.v []] from rfl] at e2
      exact (congrArg List.length e2).trans (List.length_append ..)
    have hp := hd_pos 192 (encs (n.ks.map refItemP ++ [T.mk false n.v []])).length
    have hc := encs_count (n.ks.map refItemP ++ [T.mk false n.v []])
    have h17 : (n.ks.map refItemP ++ [T.mk false n.v []]).length = 17 := by simp [h5]
    refine ⟨by omega, fun r hr => ?_⟩
    have := encs_mem_len (its := n.ks.map refItemP ++ [T.mk false n.v []]) (u := refItemP r) (List.mem_append_left _ (List.mem_map_of_mem hr))
    omega
/-- What is inline in a right node: it is read, it is named as it is, and a branch within a branch is none that is inline. -/
theorem inline_in {n : PN} (ho : okN n) (h : NR n = true) {r : PR} (hr : r ∈ n.c :: n.ks) (hk : r.k = 1) : ∃ m, ND r.i = some m ∧ r = ⟨1, z32, r.i⟩ ∧ r.i.length < 32 ∧ isB r.i ∧ (n.k = 3 → m.k = 3 → ¬ (NE n).length < 32) := by
  have hrr : rrefP KD r = true ∧ okR r := by
    rcases List.mem_cons.1 hr with rfl | hr
    · rcases NR_parts h with ⟨_, _, _, _, _, h5, _, _⟩ | ⟨_, _, _, _, _, h5, _, _⟩ | ⟨_, _, _, h5, _, _, _, _⟩ <;> exact ⟨h5, ho.2.2.1⟩
    · rcases NR_parts h with ⟨_, _, _, _, _, _, _, h7⟩ | ⟨_, _, _, _, _, _, _, h7⟩ | ⟨_, _, _, _, _, _, h7, _⟩
      · rw [h7] at hr; cases hr
      · rw [h7] at hr; cases hr
      · exact ⟨h7 r hr, ho.2.2.2 r hr⟩
  rcases rref_cases hrr.1 with c | c | ⟨_, c2, c3, c4⟩
  · omega
  · omega
  · obtain ⟨m, hm, _⟩ := KD_some c4
    refine ⟨m, hm, PR.ext hk c2 rfl, c3, hrr.2.2.2, fun h3 hm3 hlt => ?_⟩
    obtain ⟨l1, l2⟩ := branch_len ho h h3
    have hrk : r ∈ n.ks := by
      rcases List.mem_cons.1 hr with rfl | hr
      · rcases NR_parts h with h | h | h
        · omega
        · omega
        · have := h.2.2.2.2.1; omega
      · exact hr
    have hl := l2 r hrk
    obtain ⟨m1, m2, m3⟩ := node_only hrr.2.2.2 hm
    have he : refItemP r = itemP m := by unfold refItemP; rw [if_pos hk, m3]
    have hNE : enc (refItemP r) = r.i := by rw [he]; exact m2
    have hbm := (branch_len (node_okN hrr.2.2.2 hm) m1 hm3).1
    rw [m2] at hbm
    rw [hNE] at hl
    omega
end Go.Proofs.Ytamibjgahcpkcaa
/- Rows of references that grow; the node that the document's Decode tries. -/
namespace Go.Proofs.Ytamibjgahcpkcaa
open Go.RowKit
open Ni (unpP)
set_option linter.unusedVariables false
set_option maxRecDepth 100000
def OwnR (w : World) (base : Nat) (v : Value) (ys : List RV) : Prop := w.ownsRow base 26 34 v ys.length (flatR ys)
theorem ownR_lt {w : World} {base : Nat} {v : Value} {ys : List RV} (h : OwnR w base v ys) {g : Nat} (hg : v.ownBlock = some g) : base ≤ g ∧ g < w.heap.size := by
  rcases h.2 with ⟨rfl, _⟩ | ⟨g', cap, cur, rfl, hbg, hh, _⟩
  · cases hg
  · cases hg
    exact ⟨hbg, lt_of_get hh⟩
theorem ownR_keep {w w' : World} {base : Nat} {v : Value} {ys : List RV} (h : OwnR w base v ys) (hk : ∀ g, v.ownBlock = some g → g < w.heap.size → w'.heap[g]? = w.heap[g]?) : OwnR w' base v ys := by
  refine ⟨h.1, ?_⟩
  rcases h.2 with h2 | ⟨g, cap, cur, hv, hb, hh, r⟩
  · exact .inl h2
  · exact .inr ⟨g, cap, cur, hv, hb, (hk g (by rw [hv]; rfl) (lt_of_get hh)).trans hh, r⟩
theorem app_ref {w : World} {base : Nat} {v : Value} {ys : List RV} (hl : ∀ y ∈ ys, y.d.length = 32) (hown : OwnR w base v ys) (y : RV) (hy : y.d.length = 32) (ad : Addr) (c : Nat) (hnews : ∀ j u, (RV.cells y)[j]? = some u → w.cell? (ad.add j) = some u) (hbase : base ≤ w.heap.size) (hlen : ys.length ≤ 2199023255550) (ty : TypeId) :
    ∃ v' w', (Builtin.append_ #[27, 27] ty #[v, .slice (some ad) 1 c]).run Try.prog w = .ok v' w' ∧ OwnR w' base v' (ys ++ [y]) ∧ w.grownBy w' v.ownBlock ∧ (v'.ownBlock = v.ownBlock ∨ v'.ownBlock = some w.heap.size) := by
  obtain ⟨i, hi, hz, hsz, hby⟩ := infoRz
  have hc34 := RV.len hy
  obtain ⟨v', w', hrun, hown', hgr, _⟩ := run_append_own (P := Try.prog) w base 27 ty 26 i _ 34 64 Try.underlying27 hi hz hsz hby rfl (by decide) v ys.length (flatR ys) hown ad 1 c (RV.cells y) (by rw [hc34]) hnews y.one (by unfold maxLen; omega) (by omega) hbase
  refine ⟨v', w', hrun, ?_, hgr, ?_⟩
  · unfold OwnR
    rw [flatR_app, flatR_one, List.length_append]
    exact hown'
  · rcases hown.2 with ⟨rfl, hn0⟩ | ⟨g, cap, cur, rfl, hbg, hg, hnc, hcm, hcs, htake⟩
    · have hr := run_append_nil (P := Try.prog) w 27 ty 26 i _ Try.underlying27 hi hz ad 1 c (RV.cells y) (by rw [hsz, hc34]) hnews (by decide) (by decide) (by rw [hby]; decide)
      rw [hrun] at hr
      injection hr with e1 e2
      right
      rw [e1]
      rfl
    · by_cases hroom : ys.length + 1 ≤ cap
      · have hr := run_append_room (P := Try.prog) w 27 ty 26 i Try.underlying27 hi g ys.length cap cur hg ad 1 c (RV.cells y) (by rw [hsz, hc34]) hnews y.one hroom (by rw [hcs, hsz, hc34]; omega)
        rw [hrun] at hr
        injection hr with e1 e2
        left
        rw [e1]
        rfl
      · have hr := run_append_grow (P := Try.prog) w 27 ty 26 i _ Try.underlying27 hi hz ⟨g, 0, none⟩ ys.length cap (flatR ys) (by rw [hsz, flatR_len hl]) (World.ownsRow.cells hown (g := g) rfl) ad 1 c (RV.cells y) (by rw [hsz, hc34]) hnews (by omega) (by omega) (growslice_fits (by omega) (by rw [hby]; omega))
        rw [hrun] at hr
        injection hr with e1 e2
        right
        rw [e1]
        rfl
/-- References so far, in memory behind a place. -/
def SoR (base : Nat) (v : World) (it : Value) (rs : List PR) : Prop := ∃ ys : List RV, OwnR v base it ys ∧ RefsAt (fun b => base ≤ b ∧ it.ownBlock ≠ some b) v ys rs
theorem sor_nil (base : Nat) (v : World) : SoR base v (.slice none 0 0) [] := ⟨[], World.ownsRow_nil _ _ _ _, rfl, (fun y hy => by cases hy), fun i y r h => by simp at h⟩
theorem SoR.keep {base : Nat} {v v' : World} {it : Value} {rs : List PR} (h : SoR base v it rs) (hb : ∀ b, base ≤ b → b < v.heap.size → v'.heap[b]? = v.heap[b]?) : SoR base v' it rs := by
  obtain ⟨ys, h1, h2⟩ := h
  exact ⟨ys, ownR_keep h1 fun g hg hlt => hb g (ownR_lt h1 hg).1 hlt, h2.go fun b hb' hlt => ⟨hb b hb'.1 hlt, hb'⟩⟩
theorem SoR.all {base : Nat} {v v' : World} {it : Value} {rs : List PR} (h : SoR base v it rs) (hb : Below v.heap.size v v') : SoR base v' it rs := h.keep fun b _ hlt => hb.block b hlt
theorem sor_one {base : Nat} {wr w1 : World} {it : Value} {rs : List PR} {y : RV} {r : PR} (hz : base ≤ wr.heap.size) (h : SoR base wr it rs) (hb1 : Below wr.heap.size wr w1) (hy : RefAt (fun b => wr.heap.size ≤ b) w1 y r) (hlen : rs.length ≤ 2199023255550) (ty : TypeId) :
    ∃ v' w3, (Builtin.append_ #[27, 27] ty #[it, .slice (some ⟨w1.heap.size, 0, none⟩) 1 1]).run Try.prog (w1.alloc (.cells y.cells.toArray 26)) = .ok v' w3 ∧ SoR base w3 v' (rs ++ [r]) ∧ Below base wr w3 := by
  obtain ⟨ys, hown, hall⟩ := h
  obtain ⟨Y, hY⟩ : ∃ Y : Obj, Obj.cells y.cells.toArray 26 = Y := ⟨_, rfl⟩
  rw [hY]
  have hs2 : (w1.alloc Y).heap.size = w1.heap.size + 1 := by simp
  have hb2 : Below wr.heap.size wr (w1.alloc Y) := hb1.alloc hb1.size _
  have hz1 := hb1.size
  have hblk : (w1.alloc Y).heap[w1.heap.size]? = some Y := heap_alloc_new w1 Y
  have hnews : ∀ j u, (RV.cells y)[j]? = some u → (w1.alloc Y).cell? ((⟨w1.heap.size, 0, none⟩ : Addr).add j) = some u := by
    intro j u hu
    rw [addr_add, Nat.zero_add]
    rw [← hY] at hblk ⊢
    rw [cell_of_row _ _ _ _ _ _ hblk]
    simpa using hu
  obtain ⟨v', w3, hrun, hown3, hgr, hown4⟩ := app_ref hall.2.1 (ownR_keep hown fun g _ hg => hb2.block g hg) y hy.len _ 1 hnews (by omega) (by rw [← hall.1]; exact hlen) ty
  have hfar : ∀ b, b < w1.heap.size + 1 → it.ownBlock ≠ some b → w3.heap[b]? = (w1.alloc Y).heap[b]? := fun b hb hne => hgr.block b (by rw [hs2]; exact hb) (fun h => hne h.symm)
  have hit : ∀ g, it.ownBlock = some g → g < wr.heap.size := fun g hg => (ownR_lt hown hg).2
  have hv' : ∀ b, b < w1.heap.size → it.ownBlock ≠ some b → v'.ownBlock ≠ some b := fun b hb hne h => by
    rcases hown4 with h4 | h4
    · exact hne (h4.symm.trans h)
    · rw [h4, hs2] at h; cases h; omega
  refine ⟨v', w3, hrun, ⟨_, hown3, RefsAt.snoc (hall.go fun b hb hlt => ⟨?_, hb.1, hv' b (by omega) hb.2⟩) (hy.go fun b hb hlt => ⟨?_, by omega, ?_⟩)⟩, ?_⟩
  · rw [hfar b (by omega) hb.2]
    exact hb2.block b hlt
  · have hne : it.ownBlock ≠ some b := fun h => by have := hit b h; omega
    rw [hfar b (by omega) hne, Below.heap_alloc _ _ _ hlt]
  · refine ⟨hgr.os.trans hb2.os, hgr.tape.trans hb2.tape, hgr.output.trans hb2.output, Nat.le_trans hb2.size hgr.size, fun b hb => ?_⟩
    rw [hfar b (by omega) (fun h => by have := (ownR_lt hown h).1; omega)]
    exact hb2.block b (by omega)
  · exact hv' b hlt (fun h => by have := hit b h; omega)
theorem SoR.kids {base : Nat} {v : World} {it : Value} {rs : List PR} (h : SoR base v it rs) : ∃ ka kc, it = .slice ka rs.length kc ∧ rs.length ≤ kc ∧ kc ≤ maxLen ∧ (ka = none → rs.length = 0 ∧ kc = 0) ∧ KidsAt (fun b => base ≤ b) v ka rs := by
  obtain ⟨ys, hown, hall⟩ := h
  have hl := hall.1
  rcases hown.2 with ⟨rfl, hn0⟩ | ⟨g, cap, cur, rfl, hbg, hg, hnc, hcm, hcs, htake⟩
  · have : rs = [] := List.eq_nil_of_length_eq_zero (by omega)
    subst this
    exact ⟨none, 0, rfl, Nat.le_refl _, by unfold maxLen; omega, fun _ => ⟨rfl, rfl⟩, fun j r hr => by simp at hr⟩
  · refine ⟨some ⟨g, 0, none⟩, cap, by rw [hl], by omega, hcm, fun h => (by cases h), fun j r hj => ?_⟩
    have hjl : j < ys.length := by rw [← hl]; exact (List.getElem?_eq_some_iff.1 hj).1
    refine ⟨g, 0, ys[j], rfl, hbg, fun k u hu => ?_, (hall.2.2 j _ r (List.getElem?_eq_getElem hjl) hj).go fun b hb _ => ⟨rfl, hb.1⟩⟩
    have e : ys = ys.take j ++ ys[j] :: ys.drop (j + 1) := by rw [← List.drop_eq_getElem_cons hjl, List.take_append_drop]
    have hl' : (ys.take j).length = j := by rw [List.length_take]; omega
    have hf := flat_at (pre := ys.take j) (post := ys.drop (j + 1)) (fun z hz => hall.2.1 z (List.mem_of_mem_take hz)) hu
    rw [hl', ← e] at hf
    have := World.ownsRow.cells hown (g := g) rfl (j * 34 + k) u hf
    rw [addr_add] at this
    rw [show 0 + j * 34 + k = 0 + (j * 34 + k) from by omega]
    exact this
/-- The node that bytes may say. -/
def ddNode (t : T) : PN :=
  if t.its.length = 2 then
    (if (unpP (t.its.getD 0 t0).bs).2.1 = true then ⟨1, (unpP (t.its.getD 0 t0).bs).1, (t.its.getD 1 t0).bs, r0, []⟩
     else ⟨2, (unpP (t.its.getD 0 t0).bs).1, [], drefP (t.its.getD 1 t0), []⟩)
  else ⟨3, [], (t.its.getD 16 t0).bs, r0, (t.its.take 16).map drefP⟩
theorem dref_of {u : T} {r : PR} (h : refOfP u = some r) : r = drefP u := by
  unfold refOfP at h
  unfold drefP
  by_cases hl : u.l = true
  · rw [if_pos hl] at h ⊢
    by_cases hm : (mP u).2 = 0
    · rw [if_pos hm] at h; cases h; rw [encP_yes hm]
    · rw [if_neg hm] at h; cases h
  · rw [if_neg hl] at h ⊢
    by_cases h0 : u.bs.length = 0
    · rw [if_pos h0] at h; cases h; rw [if_neg (by omega)]
    · rw [if_neg h0] at h
      by_cases h32 : u.bs.length = 32
      · rw [if_pos h32] at h ⊢; cases h; rfl
      · rw [if_neg h32] at h; cases h
theorem kids_of : ∀ {ts : List T} {ks : List PR}, kidsP ts = some ks → ks = ts.map drefP
  | [], ks, h => by cases h; rfl
  | t :: l, ks, h => by
    rw [kidsP] at h
    cases hr : refOfP t with
    | none => rw [hr] at h; cases h
    | some a =>
      rw [hr] at h
      dsimp only at h
      cases hk : kidsP l with
      | none => rw [hk] at h; cases h
      | some l' =>
        rw [hk] at h
        cases h
        rw [List.map_cons, ← kids_of hk, ← dref_of hr]
theorem ddNode_of {t : T} {n : PN} (h : nodeOfP t = some n) : n = ddNode t ∧ (t.its.length = 2 ∨ t.its.length = 17) := by
  unfold nodeOfP at h
  unfold ddNode
  by_cases h2 : t.its.length = 2
  · rw [if_pos h2] at h ⊢
    refine ⟨?_, .inl h2⟩
    unfold pathP at h
    split at h
    · cases h
    · split at h
      · rename_i hlf
        rw [if_pos hlf]
        split at h
        · cases h
        · cases h; rfl
      · rename_i hlf
        rw [if_neg hlf]
        cases hq : refOfP (t.its.getD 1 t0) with
        | none => rw [hq] at h; cases h
        | some c => rw [hq] at h; cases h; rw [← dref_of hq]
  · rw [if_neg h2] at h ⊢
    by_cases h17 : t.its.length = 17
    · rw [if_pos h17] at h
      refine ⟨?_, .inr h17⟩
      unfold branchP at h
      cases hk : kidsP (t.its.take 16) with
      | none => rw [hk] at h; cases h
      | some ks =>
        rw [hk] at h
        dsimp only at h
        split at h
        · cases h
        · cases h; rw [← kids_of hk]
    · rw [if_neg h17] at h; cases h
theorem dd_bad {b : List Int} {e : Nat} (hb : isB b) (hd : decP b = .bad e) : ND b = none := by rw [ND_eq hb, hd]
theorem dd_no {b : List Int} {t : T} (hb : isB b) (hd : decP b = .ok t) (h : ¬ (t.its.length = 2 ∨ t.its.length = 17)) : ND b = none := by
  cases hn : ND b with
  | none => rfl
  | some n =>
    obtain ⟨t', h1, h2, _⟩ := ND_some hb hn
    rw [hd] at h1
    cases h1
    exact absurd (ddNode_of h2).2 h
theorem dd_yes {b : List Int} {t : T} (hb : isB b) (hd : decP b = .ok t) (ho : okN (ddNode t)) : ND b = if NR (ddNode t) = true ∧ NE (ddNode t) = b then some (ddNode t) else none := by
  by_cases h : NR (ddNode t) = true ∧ NE (ddNode t) = b
  · rw [if_pos h]
    have := NE_isB ho h.1 (by rw [h.2]; exact hb)
    rwa [h.2] at this
  · rw [if_neg h]
    cases hn : ND b with
    | none => rfl
    | some n =>
      obtain ⟨t', h1, h2, _⟩ := ND_some hb hn
      rw [hd] at h1
      cases h1
      obtain ⟨h3, h4, _⟩ := node_only hb hn
      rw [(ddNode_of h2).1] at h3 h4
      exact absurd ⟨h3, h4⟩ h
theorem dref_small {b : List Int} {t u : T} (hb : isB b) (h : decP b = .ok t) (hu : u ∈ t.its) : (drefP u).i.length < b.length := by
  have hs := (sub_enc hb h hu).1
  unfold drefP
  split
  · by_cases hm : (mP u).2 = 0
    · rw [encP_yes hm]; exact hs
    · rw [encP_no hm]; simp; omega
  · split
    · simp; omega
    · show (0 : Nat) < _; omega
theorem dd_sub {b : List Int} {t : T} (hb : isB b) (h : decP b = .ok t) (hl : t.its.length = 2 ∨ t.its.length = 17) : ∀ r, (r = (ddNode t).c ∨ r ∈ (ddNode t).ks) → r.i.length < b.length := by
  have h0 : r0.i.length < b.length := by have := (sub_enc hb h (getD_memT (l := t.its) (i := 0) (by omega))).1; show 0 < _; omega
  intro r hr
  unfold ddNode at hr
  by_cases h2 : t.its.length = 2
  · rw [if_pos h2] at hr
    split at hr
    · rcases hr with rfl | hr
      · exact h0
      · cases hr
    · rcases hr with rfl | hr
      · exact dref_small hb h (getD_memT (by omega))
      · cases hr
  · rw [if_neg h2] at hr
    rcases hr with rfl | hr
    · exact h0
    · obtain ⟨u, hu, rfl⟩ := List.mem_map.1 hr
      exact dref_small hb h (List.mem_of_mem_take hu)
end Go.Proofs.Ytamibjgahcpkcaa
/- What the document's Of answers. -/
namespace Go.Proofs.Ytamibjgahcpkcaa.Ni
open Go.RowKit
set_option linter.unusedVariables false
theorem nib_snoc2 (b : List Int) (j : Nat) (hj : j < b.length) : nib (b.take (j + 1)) = (nib (b.take j) ++ [b.getD j 0 / 16]) ++ [b.getD j 0 % 16] := by
  rw [nib_take hj, List.append_assoc]; rfl
set_option maxHeartbeats 1000000 in
theorem rof_any (a : Option Addr) (n c : Nat) (b : List Int) (w : World) (h : Ag w a n c b) (hn : 2 * n ≤ 140737488355328) :
    Calls Try.prog 63 #[.slice a n c] w fun e w' => (∃ a' c', e = .returned (.slice a' (2 * n) c') ∧ 2 * n ≤ c' ∧ c' ≤ maxLen ∧ Ag w' a' (2 * n) c' (nib b) ∧ (0 < 2 * n → ∀ g off, a' = some ⟨g, off, none⟩ → w.heap.size ≤ g)) ∧ Below w.heap.size w w' := by
  have HL := Hid.mk h.l
  have HC := Hid.mk (fun h0 => ag_head h h0)
  have HB := Hid.mk h.b
  clear h
  go_enter Try.func63, Try.ntmps63
  go_wp2_with fail
  go_loopw [3, 4] (fun v i w' => ∃ j : Nat, j ≤ n ∧ i = .int .i64 j ∧ OwnB w' w.heap.size v (nib (b.take j)) ∧ Below w.heap.size w w') (fun _ i _ => n - (intOf i).toNat)
  case atStart => exact ⟨0, by omega, rfl, ownB_nil _ _, Below.refl _ _⟩
  case round =>
    obtain ⟨j, hj, rfl, hown, hb⟩ := hrel
    have HO := Hid.mk hown
    have HBW := Hid.mk hb
    clear hown hb
    by_cases hlt : j < n
    · obtain ⟨g, off, rfl, hnc, hcm, hcs⟩ := HC.out (by omega)
      unfold maxLen at hcm
      have hcell0 := hcs j hlt
      have hcell := (HBW.out.cell (p := ⟨g, off + j, none⟩) (block_lt_of_cell hcell0)).trans hcell0
      have hjb : j < b.length := by have := HL.out; omega
      have hx := HB.out _ (getD_mem hjb)
      have HN := Hid.mk (nib_snoc2 b j hjb)
      have HNL : Hid ((nib (b.take j)).length = 2 * j) := Hid.mk (by rw [nib_len, List.length_take]; omega)
      generalize b.getD j 0 = x at hcell hcell0 hx HN
      obtain ⟨hx0, hx1⟩ := hx
      have hji : (j : Int) < n := by omega
      have HO2 : Hid (∀ o : Obj, OwnB (wr.alloc o) w.heap.size u3 (nib (b.take j))) := Hid.mk fun o => OwnB.alloc HO.out o
      have HSZ := Hid.mk HBW.out.size
      have HC0 := Hid.mk hcell0
      clear HO hcs hjb hcell0
      go_wp2_with (first
        | (at_builtin; refine app_any rfl (.tmp 11) (.tmp 17) rfl w.heap.size _ (nib (b.take j)) rfl (HO2.out _) (some ⟨wr.heap.size, 0, none⟩) 1 1 [x / 16] rfl (in0_one wr _) (fun h => by cases h) rfl (by rw [HNL.out]; omega) (by have := HSZ.out; simp; omega) ?_; intro v1 w1 o1 hb1; have HO1 := Hid.mk o1; have HB1 := Hid.mk ((HBW.out.alloc HSZ.out _).trans hb1); clear o1 hb1; have hcell1 := (HB1.out.cell (p := ⟨g, off + j, none⟩) (block_lt_of_cell HC0.out)).trans HC0.out)
        | (at_builtin; refine app_any rfl (.tmp 19) (.tmp 25) rfl w.heap.size _ (nib (b.take j) ++ [x / 16]) rfl (OwnB.alloc HO1.out _) (some ⟨w1.heap.size, 0, none⟩) 1 1 [x % 16] rfl (in0_one w1 _) (fun h => by cases h) rfl (by rw [List.length_append, HNL.out]; simp; omega) (by have := HB1.out.size; simp; omega) ?_; intro v2 w2 o2 hb2; rw [← HN.out] at o2; have HO3 := Hid.mk o2; have HB2 := Hid.mk ((HB1.out.alloc HB1.out.size _).trans hb2); clear o2 hb2))
      exact ⟨⟨j + 1, by omega, by simp, HO3.out, HB2.out⟩, by simp [intOf]; omega⟩
    · have hji : ¬ (j : Int) < n := by omega
      have hbt : b.take j = b := List.take_of_length_le (by have := HL.out; omega)
      rw [hbt] at HO
      obtain ⟨a', c', rfl, h1, h2, h3, h4⟩ := HO.out.cutable (nib_isB HB.out)
      have hln : (nib b).length = 2 * n := by rw [nib_len, HL.out]
      rw [hln] at h1 h3 h4 ⊢
      have H4 := Hid.mk (show 0 < 2 * n → ∀ g off, a' = some ⟨g, off, none⟩ → w.heap.size ≤ g from fun h0 g off e => by obtain ⟨g', off', cur, e', hg, _⟩ := h4 h0; rw [e] at e'; cases e'; exact hg)
      have H1 := Hid.mk h1
      have H2 := Hid.mk h2
      have H3 := Hid.mk h3
      clear hbt h1 h2 h3 h4 hln
      go_wp2_with fail
      go_ret
      exact ⟨⟨a', c', rfl, H1.out, H2.out, H3.out, by first | exact H4.out | (intro h0; exact H4.out (by omega))⟩, HBW.out⟩
end Go.Proofs.Ytamibjgahcpkcaa.Ni

/- An append onto a row of one's own, up to the greatest that the machine grants: where its result lies. -/
import Derived.Test.YtdkpilgelgjieaaGreatG21
import Derived.Maps.AppendAt
import Derived.Deep.DeepAppendWide
import Derived.Test.YtdkpilgelgjieaaGreatG15
import Derived.Test.YtdkpilgelgjieaaGreatG18
namespace Go.Proofs.YtdkpilgelgjieaaGreat
open Go.RowKit
set_option linter.unusedVariables false
theorem app_at_wide {P : Program} (w : World) (base : Nat) (t ty e : TypeId) (i : TypeInfo) (z : Value) (size bytes : Nat) (ht : P.underlying t = some (.slice e)) (hi : P.info? e = some i) (hz : i.zero = some z)
    (hsize : i.size = size) (hby : i.bytes = bytes) (hzs : z.cells.size = size) (hsz : 0 < size)
    (v : Value) (n : Nat) (xs : List Value) (hown : w.ownsRow base e size v n xs)
    (a : Addr) (m c : Nat) (news : List Value) (hl : news.length = m * size) (hnews : ∀ j u, news[j]? = some u → w.cell? (a.add j) = some u) (h1 : ∀ u ∈ news, u.oneCell' = true) (hm0 : 0 < m)
    (h63 : n + m ≤ maxLen) (hbytes : ((n + m) + (n + m) / 4 + 192) * bytes ≤ 281474976710656) (hbase : base ≤ w.heap.size) :
    ∃ v' w', (Builtin.append_ #[t, t] ty #[v, .slice (some a) m c]).run P w = .ok v' w' ∧ w'.ownsRow base e size v' (n + m) (xs ++ news) ∧ w.grownBy w' v.ownBlock ∧
      (v' = .slice none 0 0 ↔ v = .slice none 0 0 ∧ m = 0) ∧ (v'.ownBlock = v.ownBlock ∨ v'.ownBlock = some w.heap.size) := by
  obtain ⟨v', w', r1, r2, r3, r4⟩ := run_append_own_wide w base t ty e i z size bytes ht hi hz hsize hby hzs hsz v n xs hown a m c news hl hnews h1 h63 hbytes hbase
  refine ⟨v', w', r1, r2, r3, r4, ?_⟩
  subst hsize
  subst hby
  have hsmall : n + m ≤ 9223372036854775807 := by simp only [maxLen] at h63; omega
  rcases hown.2 with ⟨rfl, rfl⟩ | ⟨g, cap, cur, rfl, hbg, hg, hnc, hcm, hcs, htake⟩
  · have hr := run_append_nil (P := P) w t ty e i z ht hi hz a m c news hl hnews hm0 (by omega) (by
      have h2 : m * i.bytes ≤ (0 + m + (0 + m) / 4 + 192) * i.bytes := Nat.mul_le_mul_right _ (by omega)
      omega)
    rw [hr] at r1
    cases r1
    exact .inr rfl
  · by_cases hroom : n + m ≤ cap
    · have hfit : n * i.size + news.length ≤ cur.size := by rw [hl, hcs, ← Nat.add_mul]; exact Nat.mul_le_mul_right _ hroom
      have hr := run_append_room (P := P) w t ty e i ht hi g n cap cur hg a m c news hl hnews h1 hroom hfit
      rw [hr] at r1
      cases r1
      exact .inl rfl
    · have holds : ∀ j u, xs[j]? = some u → w.cell? ((⟨g, 0, none⟩ : Addr).add j) = some u := hown.cells (g := g) rfl
      have hr := run_append_grow (P := P) w t ty e i z ht hi hz ⟨g, 0, none⟩ n cap xs hown.1 holds a m c news hl hnews (by omega) (by omega) (growslice_fits_wide (by omega) hbytes)
      rw [hr] at r1
      cases r1
      exact .inr rfl
end Go.Proofs.YtdkpilgelgjieaaGreat
/- Steps that make memory, and a reference that is stored within a row of them. -/
namespace Go.Proofs.YtdkpilgelgjieaaGreat
open Go.RowKit
set_option linter.unusedVariables false
set_option maxRecDepth 100000
/-- The cells of a row of references. -/
def flatR (ys : List RV) : List Value := ys.flatMap RV.cells
theorem flatR_len : ∀ {ys : List RV}, (∀ y ∈ ys, y.d.length = 32) → (flatR ys).length = ys.length * 34
  | [], _ => rfl
  | y :: r, h => by
    have ih := flatR_len fun z hz => h z (List.mem_cons_of_mem _ hz)
    unfold flatR at ih ⊢
    rw [List.flatMap_cons, List.length_append, ih, RV.len (h y (by simp)), List.length_cons]
    omega
theorem flatR_app (a b : List RV) : flatR (a ++ b) = flatR a ++ flatR b := by unfold flatR; rw [List.flatMap_append]
theorem flatR_one (y : RV) : flatR [y] = y.cells := by unfold flatR; rw [List.flatMap_cons, List.flatMap_nil, List.append_nil]
theorem infoRz : ∃ i, Tryz.prog.info? 60 = some i ∧ i.zero = some (.agg rz.cells.toArray) ∧ i.size = 34 ∧ i.bytes = 64 := by
  have h : (Tryz.prog.info? 60).map (fun i => (i.zero, i.size, i.bytes)) = some (some (.agg rz.cells.toArray), 34, 64) := by kernel_rfl
  cases hq : Tryz.prog.info? 60 with
  | none => rw [hq] at h; simp at h
  | some i => rw [hq] at h; simp at h; exact ⟨i, rfl, h.1, h.2.1, h.2.2⟩
theorem made16 : madeCells (Value.agg rz.cells.toArray).cells ((16 : Int).toNat * 34) = (flatR (List.replicate 16 rz)).toArray := by kernel_rfl
section
variable {a : Act} {w : World}
theorem rd_make16 {o : Oper} (ho : o.op = .makeSlice 102 (.const (.int .i64 16)) (.const (.int .i64 16))) : (execOp a.eval o).run Tryz.prog w = .ok (.value (.slice (some ⟨w.heap.size, 0, none⟩) 16 16)) (w.alloc (.cells (flatR (List.replicate 16 rz)).toArray 60)) := by
  obtain ⟨i, hi, hz, hsz, hby⟩ := infoRz
  have hr : (Instr.makeSlice 102 (.int .i64 16) (.int .i64 16)).run Tryz.prog w = .ok (.slice (some ⟨w.heap.size, 0, none⟩) 16 16) (w.alloc (.cells (flatR (List.replicate 16 rz)).toArray 60)) := by
    have h := run_make (P := Tryz.prog) w 102 60 i _ Tryz.underlying102 hi hz .i64 .i64 16 16 (by omega) (by omega) (by rw [hby]; omega) (by omega)
    rw [hsz, show madeCells (Value.agg rz.cells.toArray).cells ((16 : Int).toNat * 34) = (flatR (List.replicate 16 rz)).toArray from made16] at h
    exact h
  unfold execOp
  rw [ho]
  simp only [Act.eval, Sem.run_bind, hr, Result.andThen_ok, Sem.run_pure]
theorem rd_allocN {o : Oper} (ho : o.op = .alloc 104) : (execOp a.eval o).run Tryz.prog w = .ok (.value (.pointer (some ⟨w.heap.size, 0, none⟩))) (w.alloc (.cells nz.cells.toArray 104)) := by
  unfold execOp
  rw [ho]
  go_simp
  rfl
theorem rd_storeAt {x y : Operand} {o : Oper} (ho : o.op = .store 60 x y) (g off : Nat) (r : RV) (hl : r.d.length = 32) (hx : a.eval x = .pointer (some ⟨g, off, none⟩)) (hy : a.eval y = .agg r.cells.toArray) (t : TypeId) (cur : Array Value)
    (hg : w.heap[g]? = some (.cells cur t (0, 0))) (hfit : off + 34 ≤ cur.size) :
    (execOp a.eval o).run Tryz.prog w = .ok .skip (w.setRow g (cur.toList.take off ++ r.cells ++ cur.toList.drop (off + 34)).toArray) := by
  have hst := run_storeCells_at Tryz.prog g off t r.cells 0 cur w hg (by rw [RV.len hl]; omega) r.one
  have hi := infoR
  cases hq : Tryz.prog.info? 60 with
  | none => rw [hq] at hi; simp at hi
  | some i =>
    have hs : i.size = 34 := by rw [hq] at hi; simpa using hi
    have hsv : (storeVar 60 ⟨g, off, none⟩ (.agg r.cells.toArray)).run Tryz.prog w = .ok () (w.setRow g (cur.toList.take off ++ r.cells ++ cur.toList.drop (off + 34)).toArray) := by
      rw [RV.len hl] at hst
      simp [storeVar, sizeOf, typeInfo, hq, Value.cells, hs, RV.len hl]
      simpa using hst
    unfold execOp
    rw [ho]
    simp only [hx, hy, Instr.storeAt, Instr.sureAddr, Sem.run_bind, Sem.run_pure, Result.andThen_ok, hsv]
end
end Go.Proofs.YtdkpilgelgjieaaGreat
/- What branchNode answers. -/
namespace Go.Proofs.YtdkpilgelgjieaaGreat
open Go.RowKit
set_option linter.unusedVariables false
set_option maxRecDepth 100000
theorem kids_none : ∀ {ts : List T} {t : T}, t ∈ ts → refOfP t = none → kidsP ts = none
  | x :: l, t, ht, h => by
    rw [kidsP]
    rcases List.mem_cons.1 ht with rfl | ht
    · rw [h]
    · rw [kids_none ht h]
      cases refOfP x <;> rfl
theorem kids_snoc : ∀ {ts : List T} {rs : List PR} {t : T} {r : PR}, kidsP ts = some rs → refOfP t = some r → kidsP (ts ++ [t]) = some (rs ++ [r])
  | [], rs, t, r, h, hr => by
    cases h
    rw [List.nil_append, kidsP, hr, kidsP]
    rfl
  | x :: l, rs, t, r, h, hr => by
    rw [kidsP] at h
    rw [List.cons_append, kidsP]
    cases hx : refOfP x with
    | none => rw [hx] at h; cases h
    | some a =>
      rw [hx] at h
      dsimp only at h ⊢
      cases hk : kidsP l with
      | none => rw [hk] at h; cases h
      | some l' =>
        rw [hk] at h
        cases h
        rw [kids_snoc hk hr]
        rfl
/-- References, one behind the other. -/
def RefsAt (K : Nat → Prop) (w : World) (ys : List RV) (rs : List PR) : Prop := rs.length = ys.length ∧ (∀ y ∈ ys, y.d.length = 32) ∧ ∀ (i : Nat) (y : RV) (r : PR), ys[i]? = some y → rs[i]? = some r → RefAt K w y r
theorem RefsAt.go {K L : Nat → Prop} {w w' : World} (hk : Keep K L w w') {ys : List RV} {rs : List PR} (h : RefsAt K w ys rs) : RefsAt L w' ys rs := ⟨h.1, h.2.1, fun i y r h1 h2 => (h.2.2 i y r h1 h2).go hk⟩
theorem RefsAt.snoc {K : Nat → Prop} {w : World} {ys : List RV} {rs : List PR} {y : RV} {r : PR} (h : RefsAt K w ys rs) (hy : RefAt K w y r) : RefsAt K w (ys ++ [y]) (rs ++ [r]) := by
  refine ⟨by simp [h.1], fun z hz => ?_, fun i z s h1 h2 => ?_⟩
  · rcases List.mem_append.1 hz with hz | hz
    · exact h.2.1 z hz
    · simp only [List.mem_cons, List.not_mem_nil, or_false] at hz; rw [hz]; exact hy.len
  · by_cases hi : i < ys.length
    · rw [List.getElem?_append_left hi] at h1
      rw [List.getElem?_append_left (by rw [h.1]; exact hi)] at h2
      exact h.2.2 i z s h1 h2
    · have hi2 : i = ys.length := by
        have := (List.getElem?_eq_some_iff.1 h1).1
        simp at this; omega
      subst hi2
      simp at h1
      rw [← h.1] at h2
      simp at h2
      rw [← h1, ← h2]; exact hy
theorem flat_at {pre : List RV} {y : RV} {post : List RV} (hp : ∀ z ∈ pre, z.d.length = 32) {j : Nat} {u : Value} (h : y.cells[j]? = some u) : (flatR (pre ++ y :: post))[pre.length * 34 + j]? = some u := by
  have e : flatR (pre ++ y :: post) = flatR pre ++ (y.cells ++ flatR post) := by
    rw [flatR_app, show y :: post = [y] ++ post from rfl, flatR_app, flatR_one]
  rw [e, List.getElem?_append_right (by rw [flatR_len hp]; omega), flatR_len hp, show pre.length * 34 + j - pre.length * 34 = j from by omega, List.getElem?_append_left (List.getElem?_eq_some_iff.1 h).1]
  exact h
/-- A whole row of references is a node's kids. -/
theorem kidsAt_row {K : Nat → Prop} {w : World} {g : Nat} {ys : List RV} {rs : List PR} (hr : w.heap[g]? = some (.cells (flatR ys).toArray 60)) (hK : K g) (h : RefsAt K w ys rs) : KidsAt K w (some ⟨g, 0, none⟩) rs := fun j r hj => by
  have hjl : j < ys.length := by rw [← h.1]; exact (List.getElem?_eq_some_iff.1 hj).1
  refine ⟨g, 0, ys[j], rfl, hK, fun k u hu => ?_, h.2.2 j _ r (List.getElem?_eq_getElem hjl) hj⟩
  rw [cell_of_row _ _ _ _ _ _ hr, List.getElem?_toArray]
  have e : ys = ys.take j ++ ys[j] :: ys.drop (j + 1) := by rw [← List.drop_eq_getElem_cons hjl, List.take_append_drop]
  have hl : (ys.take j).length = j := by rw [List.length_take]; omega
  have hf := flat_at (pre := ys.take j) (post := ys.drop (j + 1)) (fun z hz => h.2.1 z (List.mem_of_mem_take hz)) hu
  rw [hl, ← e] at hf
  rw [show 0 + j * 34 + k = j * 34 + k from by omega]
  exact hf
/-- One reference stored in its place. -/
theorem flat_put {pre : List RV} {z y : RV} {post : List RV} (hp : ∀ x ∈ pre, x.d.length = 32) (hz : z.d.length = 32) :
    (flatR (pre ++ z :: post)).take (pre.length * 34) ++ y.cells ++ (flatR (pre ++ z :: post)).drop (pre.length * 34 + 34) = flatR (pre ++ y :: post) := by
  have e : ∀ x : RV, flatR (pre ++ x :: post) = flatR pre ++ (x.cells ++ flatR post) := fun x => by
    rw [flatR_app, show x :: post = [x] ++ post from rfl, flatR_app, flatR_one]
  rw [e z, e y]
  have l1 := flatR_len hp
  rw [List.take_append_of_le_length (by omega), List.take_of_length_le (by omega), List.drop_append, List.drop_of_length_le (by omega), List.nil_append, l1, show pre.length * 34 + 34 - pre.length * 34 = 34 from by omega, List.drop_append, List.drop_of_length_le (by rw [RV.len hz]; omega), List.nil_append, RV.len hz, Nat.sub_self, List.drop_zero, List.append_assoc]
section
variable {w : World} {ops : Array Oper} {rest : List Oper} {o : Oper} {a : Act} {Q : Exit → Act → World → Prop}
theorem wpl_storeAt (hw : Region.wanted o (yielded ops a.tmps) = true) (x y : Operand) (ho : o.op = .store 60 x y) (g off : Nat) (r : RV) (hl : r.d.length = 32) (hx : a.eval x = .pointer (some ⟨g, off, none⟩)) (hy : a.eval y = .agg r.cells.toArray) (t : TypeId) (cur : Array Value)
    (hg : w.heap[g]? = some (.cells cur t (0, 0))) (hfit : off + 34 ≤ cur.size) (h : wpList Tryz.prog ops Q rest (a.put o.dst undef) (w.setRow g (cur.toList.take off ++ r.cells ++ cur.toList.drop (off + 34)).toArray)) : wpList Tryz.prog ops Q (o :: rest) a w :=
  wants hw fun K hK => by
    unfold Oper.wp
    rw [rd_storeAt ho g off r hl hx hy t cur hg hfit, Oper.upon_skip]
    exact hK _ _ h
end
/-- The value's box and the result's, while branchNode goes on. -/
structure Pb (w v : World) (y : V) : Prop where
  row : v.heap[w.heap.size + 1]? = some (.cells nz.cells.toArray 104)
  bx : B1 w.heap.size v y
  bel : Below w.heap.size w v
  sz : v.heap.size = w.heap.size + 2
theorem pb_new (w : World) (y : V) : Pb w ((w.alloc (.cells #[.bool y.l, .slice y.ba y.bn y.bc, .slice y.ia y.m y.ic] 94)).alloc (.cells nz.cells.toArray 104)) y := by
  have s1 : (w.alloc (.cells #[.bool y.l, .slice y.ba y.bn y.bc, .slice y.ia y.m y.ic] 94)).heap.size = w.heap.size + 1 := by simp
  refine ⟨?_, (b1_new w y).alloc _, below_go (below_new w _) (below_new _ _), by simp⟩
  have := heap_alloc_new (w.alloc (.cells #[.bool y.l, .slice y.ba y.bn y.bc, .slice y.ia y.m y.ic] 94)) (.cells nz.cells.toArray 104)
  rwa [s1] at this
def nvB (y : V) (gk : Nat) : NV := ⟨3, none, 0, 0, y.ba, y.bn, y.bc, rz, some ⟨gk, 0, none⟩, 16, 16⟩
/-- The node that is filled, while branchNode goes on. -/
structure Bk (w u : World) (y : V) (gk gn : Nat) (C : List RV) : Prop where
  row : u.heap[w.heap.size + 1]? = some (.cells nz.cells.toArray 104)
  bx : B1 w.heap.size u y
  nb : NBx gn u (nvB y gk)
  kr : u.heap[gk]? = some (.cells (flatR C).toArray 60)
  bel : Below w.heap.size w u
  gk2 : w.heap.size + 2 ≤ gk ∧ gk < w.heap.size + 4
  gn2 : w.heap.size + 2 ≤ gn ∧ gn < w.heap.size + 4
  ne : gk ≠ gn
  sz : w.heap.size + 4 ≤ u.heap.size
theorem Bk.go {w u u' : World} {y : V} {gk gn : Nat} {C : List RV} (h : Bk w u y gk gn C) (hb : Below u.heap.size u u') : Bk w u' y gk gn C :=
  ⟨Below.row hb h.row, h.bx.go hb, h.nb.go hb, Below.row hb h.kr, below_go h.bel hb, h.gk2, h.gn2, h.ne, Nat.le_trans h.sz hb.size⟩
theorem Bk.put {w u : World} {y : V} {gk gn : Nat} {C D : List RV} (h : Bk w u y gk gn C) : Bk w (u.setRow gk (flatR D).toArray) y gk gn D :=
  ⟨(setRow_other _ _ _ _ (by have := h.gk2; omega)).trans h.row, b1_setRow h.bx (by have := h.gk2; omega), ⟨(setRow_other _ _ _ _ (Ne.symm h.ne)).trans h.nb.row, h.nb.l⟩, setRow_heap _ _ _ _ _ _ h.kr, Below.setRow h.bel (by have := h.gk2; omega) _, h.gk2, h.gn2, h.ne, by simpa using h.sz⟩
end Go.Proofs.YtdkpilgelgjieaaGreat
/- That branchNode answers the branch of the kids and the value. -/
namespace Go.Proofs.YtdkpilgelgjieaaGreat
open Go.RowKit
set_option linter.unusedVariables false
set_option maxRecDepth 100000
theorem hra_go {base : Nat} {w w' : World} {ys : List RV} {rs : List PR} (h : RefsAt (Own base w) w ys rs) (hb : Below w.heap.size w w') : RefsAt (Own base w') w' ys rs := h.go (Keep.own hb (Nat.le_refl _))
set_option maxHeartbeats 8000000 in
theorem branchNode_any (P : Nat → Prop) (ts : List T) (a : Option Addr) (c : Nat) (u : T) (y : V) (w : World) (h16 : ts.length = 16) (hall : LiesAll w ts a 0) (hc : 16 ≤ c ∧ c ≤ maxLen) (hy : LiesP P w u y) (hb : ∀ g, w.heap.size ≤ g → P g) :
    Calls Tryz.prog 125 #[.slice a 16 c, .agg #[.bool y.l, .slice y.ba y.bn y.bc, .slice y.ia y.m y.ic]] w (NPost P w (branchP ts u)) := by
  obtain ⟨l2, bs2, its2⟩ := u
  obtain ⟨⟨hl2, -⟩, -⟩ := liesP_eq.1 hy
  subst hl2
  obtain ⟨hc1, hc2⟩ := hc
  unfold maxLen at hc2
  have HY := Hid.mk hy
  have HBASE := Hid.mk hb
  have H16 := Hid.mk h16
  have HALL := Hid.mk hall
  obtain ⟨res, hres⟩ : ∃ res, branchP ts (.mk y.l bs2 its2) = res := ⟨_, rfl⟩
  rw [hres]
  have hres : (match kidsP ts with
    | none => none
    | some ks => if y.l = true then none else some (⟨3, [], bs2, r0, ks⟩ : PN)) = res := hres
  have HRES := Hid.mk hres
  have HPB0 := Hid.mk (pb_new w y)
  clear hres hy hb h16 hall
  go_enter Tryz.func125, Tryz.ntmps125
  go_upto_region 1 with fail
  refine gen_w (p := fun v => Code.wp _ _ _ _ v) (q := fun v => Pb w v y) HPB0.out ?_
  clear HPB0
  intro v P0
  have HPB := Hid.mk P0
  clear P0
  have HSZ := Hid.mk HPB.out.sz
  go_cut [6] from 6 to 14 (fun s6 u => ∃ gk gn, s6 = .pointer (some ⟨gn, 0, none⟩) ∧ Bk w u y gk gn (List.replicate 16 rz))
  case first =>
    have HS1 := Hid.mk (show (v.drew.alloc (.cells (flatR (List.replicate 16 rz)).toArray 60)).heap.size = v.heap.size + 1 from by simp)
    have HS2 := Hid.mk (show (v.drew.alloc (.cells nz.cells.toArray 104)).heap.size = v.heap.size + 1 from by simp)
    have HROWA := Hid.mk (show ((v.drew.alloc (.cells (flatR (List.replicate 16 rz)).toArray 60)).alloc (.cells nz.cells.toArray 104)).heap[v.heap.size + 1]? = some (.cells nz.cells.toArray 104) from by rw [← HS1.out]; exact heap_alloc_new _ _)
    have HROWB := Hid.mk (show ((v.drew.alloc (.cells nz.cells.toArray 104)).alloc (.cells (flatR (List.replicate 16 rz)).toArray 60)).heap[v.heap.size]? = some (.cells nz.cells.toArray 104) from (heap_alloc_old _ _ (by rw [HS2.out]; omega)).trans (heap_alloc_new v.drew _))
    have HBKA := Hid.mk (show Bk w (((v.drew.alloc (.cells (flatR (List.replicate 16 rz)).toArray 60)).alloc (.cells nz.cells.toArray 104)).setRow (v.heap.size + 1) (nvB y v.heap.size).cells.toArray) y v.heap.size (v.heap.size + 1) (List.replicate 16 rz) from by
      have hs := HPB.out.sz
      have hbl : Below v.heap.size v ((v.drew.alloc (.cells (flatR (List.replicate 16 rz)).toArray 60)).alloc (.cells nz.cells.toArray 104)) := below_go (below_go (Below.refl _ _).drew (below_new _ _)) (below_new _ _)
      refine ⟨(setRow_other _ _ _ _ (by omega)).trans (Below.row hbl HPB.out.row), b1_setRow (HPB.out.bx.go hbl) (by omega), ⟨setRow_heap _ _ _ _ _ _ HROWA.out, rfl⟩, (setRow_other _ _ _ _ (by omega)).trans ((heap_alloc_old _ _ (by rw [HS1.out]; omega)).trans (heap_alloc_new v.drew _)), Below.setRow (below_go HPB.out.bel hbl) (by omega) _, ⟨by omega, by omega⟩, ⟨by omega, by omega⟩, by omega, by simp [hs]⟩)
    have HBKB := Hid.mk (show Bk w (((v.drew.alloc (.cells nz.cells.toArray 104)).alloc (.cells (flatR (List.replicate 16 rz)).toArray 60)).setRow v.heap.size (nvB y (v.heap.size + 1)).cells.toArray) y (v.heap.size + 1) v.heap.size (List.replicate 16 rz) from by
      have hs := HPB.out.sz
      have hbl : Below v.heap.size v ((v.drew.alloc (.cells nz.cells.toArray 104)).alloc (.cells (flatR (List.replicate 16 rz)).toArray 60)) := below_go (below_go (Below.refl _ _).drew (below_new _ _)) (below_new _ _)
      refine ⟨(setRow_other _ _ _ _ (by omega)).trans (Below.row hbl HPB.out.row), b1_setRow (HPB.out.bx.go hbl) (by omega), ⟨setRow_heap _ _ _ _ _ _ HROWB.out, rfl⟩, (setRow_other _ _ _ _ (by omega)).trans (by rw [← HS2.out]; exact heap_alloc_new _ _), Below.setRow (below_go HPB.out.bel hbl) (by omega) _, ⟨by omega, by omega⟩, ⟨by omega, by omega⟩, by omega, by simp [hs]⟩)
    refine wp_region_held_drew (S := fun v => B1 w.heap.size v y) (by kernel_rfl) ⟨HPB.out.bx.c0, HPB.out.bx.c1, HPB.out.bx.c2⟩ (fun hS => ?_)
    refine rd_take 0 11 (.pointer (some ⟨w.heap.size, 1, none⟩)) rfl rfl (by kernel_rfl) (by kernel_rfl) (by kernel_rfl) (fun _ _ _ h => h) (by kernel_rfl) (fun v _ => by kernel_rfl) hS ?_
    refine rd_take 1 12 (.slice y.ba y.bn y.bc) rfl rfl (by kernel_rfl) (by kernel_rfl) (by kernel_rfl) (fun _ _ _ h => h) (by kernel_rfl) (fun v hv => rd_loadB rfl (by kernel_rfl) hv.c1) hS ?_
    refine wpAnyH_ready (rs := [2, 4]) (by kernel_rfl) (by simp) ?_
    refine rd_run 2 13 (.slice (some ⟨v.heap.size, 0, none⟩) 16 16) rfl rfl (by kernel_rfl) (rd_make16 rfl) (hS.alloc _) ?_ ?_
    · refine rd_take 3 14 (.agg (nvB y v.heap.size).cells.toArray) rfl rfl (by kernel_rfl) (by kernel_rfl) (by kernel_rfl) (fun _ _ _ h => h) (by kernel_rfl) (fun v' _ => rd_build 104 _ rfl [(0, .int .i64 3), (2, .slice y.ba y.bn y.bc), (4, .slice (some ⟨v.heap.size, 0, none⟩) 16 16)] (by kernel_rfl) _ (built_N3 _ _ _ _ _ _)) (hS.alloc _) ?_
      refine wpAnyH_ready (rs := [4]) (by kernel_rfl) (by simp) ?_
      refine rd_run 4 6 (.pointer (some ⟨v.heap.size + 1, 0, none⟩)) rfl rfl (by kernel_rfl) ((rd_allocN rfl).trans (by rw [HS1.out])) ((hS.alloc _).alloc _) ?_ AllReadyH.nil
      refine wpAnyH_ready (rs := [5]) (by kernel_rfl) (by simp) ?_
      refine rd_run0 5 rfl rfl (by kernel_rfl) (rd_store 104 _ _ rfl (v.heap.size + 1) (nvB y (v.heap.size)).cells.toArray (by kernel_rfl) (by kernel_rfl) 104 nz.cells.toArray HROWA.out (infoN' rfl) (nz_size rfl) (all_oneCell_toArray (NV.one _))) ?_ ?_ AllReadyH.nil
      · exact b1_setRow ((hS.alloc _).alloc _) (by have := HPB.out.sz; omega)
      refine wpAnyH_done (by kernel_rfl) ?_ _
      go_frame
      go_wp2_with fail
      go_meet
      refine ⟨v.heap.size, v.heap.size + 1, rfl, ?_⟩
      exact HBKA.out
      
    refine rd_run 4 6 (.pointer (some ⟨v.heap.size, 0, none⟩)) rfl rfl (by kernel_rfl) (rd_allocN rfl) (hS.alloc _) ?_ AllReadyH.nil
    refine wpAnyH_ready (rs := [2]) (by kernel_rfl) (by simp) ?_
    refine rd_run 2 13 (.slice (some ⟨v.heap.size + 1, 0, none⟩) 16 16) rfl rfl (by kernel_rfl) ((rd_make16 rfl).trans (by rw [HS2.out])) ((hS.alloc _).alloc _) ?_ AllReadyH.nil
    refine rd_take 3 14 (.agg (nvB y (v.heap.size + 1)).cells.toArray) rfl rfl (by kernel_rfl) (by kernel_rfl) (by kernel_rfl) (fun _ _ _ h => h) (by kernel_rfl) (fun v' _ => rd_build 104 _ rfl [(0, .int .i64 3), (2, .slice y.ba y.bn y.bc), (4, .slice (some ⟨v.heap.size + 1, 0, none⟩) 16 16)] (by kernel_rfl) _ (built_N3 _ _ _ _ _ _)) ((hS.alloc _).alloc _) ?_
    refine wpAnyH_ready (rs := [5]) (by kernel_rfl) (by simp) ?_
    refine rd_run0 5 rfl rfl (by kernel_rfl) (rd_store 104 _ _ rfl (v.heap.size) (nvB y (v.heap.size + 1)).cells.toArray (by kernel_rfl) (by kernel_rfl) 104 nz.cells.toArray HROWB.out (infoN' rfl) (nz_size rfl) (all_oneCell_toArray (NV.one _))) ?_ ?_ AllReadyH.nil
    · exact b1_setRow ((hS.alloc _).alloc _) (by have := HPB.out.sz; omega)
    refine wpAnyH_done (by kernel_rfl) ?_ _
    go_frame
    go_wp2_with fail
    go_meet
    refine ⟨v.heap.size + 1, v.heap.size, rfl, ?_⟩
    exact HBKB.out
    
  case rest =>
    obtain ⟨gk, gn, rfl, BK⟩ := hcut
    have HBK := Hid.mk BK
    clear BK HPB HSZ
    go_wp2_with fail
    go_loopw [17] (fun s17 u => ∃ j : Nat, j ≤ 16 ∧ s17 = .int .i64 j ∧ ∃ (ys : List RV) (rs : List PR), kidsP (ts.take j) = some rs ∧ ys.length = j ∧ Bk w u y gk gn (ys ++ List.replicate (16 - j) rz) ∧ RefsAt (Own (w.heap.size + 4) u) u ys rs) (fun s17 _ => 16 - (intOf s17).toNat)
    case atStart => exact ⟨0, by omega, rfl, [], [], rfl, rfl, HBK.out, rfl, (fun y hy => by cases hy), fun i y r h => by simp at h⟩
    case round =>
      obtain ⟨j, hj, rfl, ys, rs, hkp, hyl, BK, hra⟩ := hrel
      have HKP := Hid.mk hkp
      have HYL := Hid.mk hyl
      have HB := Hid.mk BK
      have HRA := Hid.mk hra
      clear hkp hyl BK hra HBK
      by_cases hlt : j < 16
      · have hji : (j : Int) < 16 := by omega
        obtain ⟨t, ht⟩ : ∃ t, ts[j]? = some t := ⟨_, List.getElem?_eq_getElem (by rw [H16.out]; exact hlt)⟩
        obtain ⟨g, off, x, A⟩ := liesAll_at HALL.out j t ht
        rw [Nat.zero_add] at A
        have ha := A.ha
        subst ha
        have y0 := below_cell HB.out.bel A.c0
        have y1 := below_cell HB.out.bel A.c1
        have y2 := below_cell HB.out.bel A.c2
        have HA := Hid.mk A
        have HT := Hid.mk ht
        clear A ht
        go_upto_region 5 with fail
        refine gen_w (p := fun v => Code.wp _ _ _ _ v) (q := fun v => B1 wr.heap.size v x ∧ Below wr.heap.size wr v) ⟨b1_new wr x, below_new wr _⟩ ?_
        rintro v1 ⟨B, hb⟩
        have c0 := B.c0
        have c1 := B.c1
        have c2 := B.c2
        have HB1 := Hid.mk (HB.out.go hb)
        have HRA1 := Hid.mk (hra_go HRA.out hb)
        have HRO := Hid.mk (refOf_any t x v1 (lies_mono (below_go HB.out.bel hb) t x HA.out.li))
        clear B hb y0 y1 y2 HB HRA
        go_wp2_with fail
        refine HRO.out.mono ?_
        intro e w2 hp
        obtain ⟨hb2, hp⟩ := hp
        have HB2 := Hid.mk (HB1.out.go hb2)
        have HRA2 := Hid.mk (hra_go HRA1.out hb2)
        have HV1 := Hid.mk HB1.out.sz
        cases hq : refOfP t with
        | none =>
          rw [hq] at hp
          obtain ⟨r', hl', rfl⟩ := hp
          have HL := Hid.mk hl'
          have hr := HRES.out
          rw [kids_none (List.mem_of_getElem? HT.out) hq] at hr
          subst hr
          clear hb2 hq hl' c0 c1 c2 HRO
          go_upto_region 6 with (first | refine wpList_store_row rfl 60 _ _ rfl _ r'.cells.toArray rfl rfl 60 _ (heap_alloc_new _ _) (infoR' HL.out) (rz_size HL.out) (all_oneCell_toArray (RV.one _)) ?_)
          refine gen_w (p := fun v => Code.wp _ _ _ _ v) (q := fun v => Bk w v y gk gn (ys ++ List.replicate (16 - j) rz)) (HB2.out.go (Below.setRow (below_new w2 _) (Nat.le_refl _) _)) ?_
          intro v3 B3
          have HB3 := Hid.mk B3
          clear B3
          go_wp2_with (first | refine wpList_store_row rfl 104 _ _ rfl _ nz.cells.toArray rfl rfl 104 _ HB3.out.row (infoN' rfl) (nz_size rfl) (all_oneCell_toArray (NV.one _)) ?_)
          refine bodyPost_ret (results_node Tryz.results125 _ _ (w.heap.size + 1) nz rfl rfl (setRow_heap _ _ _ _ _ _ HB3.out.row)) rfl ?_
          exact ⟨Below.setRow HB3.out.bel (by omega) _, nz, rfl, rfl⟩
        | some r =>
          rw [hq] at hp
          obtain ⟨r', rfl, hy'⟩ := hp
          have HL := Hid.mk hy'.len
          have HYR := Hid.mk hy'
          have HKS := Hid.mk (show kidsP (ts.take (j + 1)) = some (rs ++ [r]) from by rw [List.take_add_one, HT.out]; exact kids_snoc HKP.out hq)
          clear hb2 hq hy' c0 c1 c2 HRO
          go_upto_region 6 with (first | refine wpList_store_row rfl 60 _ _ rfl _ r'.cells.toArray rfl rfl 60 _ (heap_alloc_new _ _) (infoR' HL.out) (rz_size HL.out) (all_oneCell_toArray (RV.one _)) ?_)
          refine gen_w (p := fun v => Code.wp _ _ _ _ v) (q := fun v => RBx w2.heap.size v r' ∧ Bk w v y gk gn (ys ++ List.replicate (16 - j) rz) ∧ RefsAt (Own (w.heap.size + 4) v) v (ys ++ [r']) (rs ++ [r])) ⟨⟨setRow_heap _ _ _ _ _ _ (heap_alloc_new _ _), HL.out⟩, HB2.out.go (Below.setRow (below_new w2 _) (Nat.le_refl _) _), ?_⟩ ?_
          · have hbz := Below.setRow (below_new w2 (.cells rz.cells.toArray 60)) (Nat.le_refl _) r'.cells.toArray
            exact (hra_go HRA2.out hbz).snoc (HYR.out.go (Keep.own hbz HV1.out))
          rintro v3 ⟨BR, B3, R3⟩
          have c37 := B3.nb.c37
          have HBR := Hid.mk BR
          have HB3 := Hid.mk B3
          have HR3 := Hid.mk R3
          have HZR := Hid.mk (show List.replicate (16 - j) rz = rz :: List.replicate (16 - (j + 1)) rz from by rw [show 16 - j = (16 - (j + 1)) + 1 from by omega, List.replicate_succ])
          have hkr := B3.kr
          rw [HZR.out] at hkr
          have HKR := Hid.mk hkr
          have HPRE := Hid.mk (show ∀ x ∈ ys, x.d.length = 32 from fun x hx => R3.2.1 x (List.mem_append_left _ hx))
          have HFIT := Hid.mk (show j * 34 + 34 ≤ (flatR (ys ++ rz :: List.replicate (16 - (j + 1)) rz)).toArray.size from by
            rw [List.size_toArray, flatR_len (fun x hx => by
              rcases List.mem_append.1 hx with hx | hx
              · exact HPRE.out x hx
              · rcases List.mem_cons.1 hx with rfl | hx
                · rfl
                · rw [(List.mem_replicate.1 hx).2]; rfl)]
            have := HYL.out
            simp; omega)
          clear BR B3 R3 hkr
          rw [show (nvB y gk).ka = some ⟨gk, 0, none⟩ from rfl, show (nvB y gk).kn = 16 from rfl, show (nvB y gk).kc = 16 from rfl] at c37
          go_upto_region 9 with (first | refine wpl_loadR rfl _ rfl w2.heap.size 0 rfl r' HL.out HBR.out.all ?_ | refine wpl_storeAt rfl _ _ rfl gk (j * 34) r' HL.out rfl rfl 60 _ HKR.out HFIT.out ?_)
          refine gen_w (p := fun v => Code.wp _ _ _ _ v) (q := fun v => Bk w v y gk gn ((ys ++ [r']) ++ List.replicate (16 - (j + 1)) rz) ∧ RefsAt (Own (w.heap.size + 4) v) v (ys ++ [r']) (rs ++ [r])) ?_ ?_
          · have hf := flat_put (pre := ys) (z := rz) (y := r') (post := List.replicate (16 - (j + 1)) rz) HPRE.out rfl
            rw [HYL.out] at hf
            rw [hf, show ys ++ r' :: List.replicate (16 - (j + 1)) rz = (ys ++ [r']) ++ List.replicate (16 - (j + 1)) rz from by simp]
            exact ⟨HB3.out.put, HR3.out.go (Keep.setRow (base := w.heap.size + 4) (base' := w.heap.size + 4) (g := gk) (by have := HB3.out.gk2; omega) (Nat.le_refl _))⟩
          rintro v4 ⟨B4, R4⟩
          have HB4 := Hid.mk B4
          have HR4 := Hid.mk R4
          clear B4 R4 c37
          go_wp2_with fail
          exact ⟨⟨j + 1, by omega, by simp, ys ++ [r'], rs ++ [r], HKS.out, by have := HYL.out; simp; omega, HB4.out, HR4.out⟩, by simp [intOf]; omega⟩
      · have hji : ¬ (j : Int) < 16 := by omega
        have hj16 : j = 16 := by omega
        subst hj16
        have hkp := HKP.out
        rw [List.take_of_length_le (by rw [H16.out]; omega)] at hkp
        have hr := HRES.out
        rw [hkp] at hr
        have hr : (if y.l = true then none else some (⟨3, [], bs2, r0, rs⟩ : PN)) = res := hr
        have HR := Hid.mk hr
        have hB := HB.out
        rw [show ys ++ List.replicate (16 - 16) rz = ys from by simp] at hB
        have HBF := Hid.mk hB
        clear hkp hr hB HB hj
        go_upto_region 10 with fail
        rename_i KK hkk
        refine wp_region_held_drew (S := fun v => NBx gn v (nvB y gk) ∧ B1 w.heap.size v y) (by kernel_rfl) ⟨⟨HBF.out.nb.row, HBF.out.nb.l⟩, HBF.out.bx.c0, HBF.out.bx.c1, HBF.out.bx.c2⟩ (fun hS => ?_)
        refine rd_take 0 36 (.agg (nvB y gk).cells.toArray) rfl rfl (by kernel_rfl) (by kernel_rfl) (by kernel_rfl) (fun _ _ _ h => h) (by kernel_rfl) (fun v hv => rd_loadNn rfl (by kernel_rfl) hv.1) hS ?_
        refine rd_take 1 37 (.pointer (some ⟨w.heap.size, 0, none⟩)) rfl rfl (by kernel_rfl) (by kernel_rfl) (by kernel_rfl) (fun _ _ _ h => h) (by kernel_rfl) (fun v _ => by kernel_rfl) hS ?_
        refine rd_take 2 38 (.bool y.l) rfl rfl (by kernel_rfl) (by kernel_rfl) (by kernel_rfl) (fun _ _ _ h => h) (by kernel_rfl) (fun v hv => rd_loadb rfl (by kernel_rfl) hv.2.c0) hS ?_
        refine rd_take 3 39 (.bool (!y.l)) rfl rfl (by kernel_rfl) (by kernel_rfl) (by kernel_rfl) (fun _ _ _ h => h) (by kernel_rfl) (fun v _ => by kernel_rfl) hS ?_
        refine wpAnyH_ready (rs := [4]) (by kernel_rfl) (by simp) ?_
        refine rd_run0 4 rfl rfl (by kernel_rfl) (rd_store 104 _ _ rfl (w.heap.size + 1) (nvB y gk).cells.toArray (by kernel_rfl) (by kernel_rfl) 104 nz.cells.toArray HBF.out.row (infoN' rfl) (nz_size rfl) (all_oneCell_toArray (NV.one _))) ?_ ?_ AllReadyH.nil
        · exact ⟨⟨(setRow_other _ _ _ _ (by have := HBF.out.gn2; omega)).trans hS.1.row, hS.1.l⟩, b1_setRow hS.2 (by omega)⟩
        refine rd_take 5 5 (.bool (!y.l)) rfl rfl (by kernel_rfl) (by kernel_rfl) (by kernel_rfl) (fun _ _ _ h => h) (by kernel_rfl) (fun v _ => by kernel_rfl) ⟨⟨(setRow_other _ _ _ _ (by have := HBF.out.gn2; omega)).trans hS.1.row, hS.1.l⟩, b1_setRow hS.2 (by omega)⟩ ?_
        refine wpAnyH_done (by kernel_rfl) ?_ _
        refine hkk _ _ ?_
        refine end_node Tryz.results125 (fun h => h) (w.heap.size + 1) (nvB y gk) (.bool (!y.l)) rfl (by kernel_rfl) (by kernel_rfl) (by kernel_rfl) (setRow_heap _ _ _ _ _ _ HBF.out.row) ?_
        refine ⟨Below.setRow HBF.out.bel.drew (by omega) _, ?_⟩
        have hr := HR.out
        cases hyl : y.l with
        | true =>
          rw [hyl, if_pos rfl] at hr
          subst hr
          exact ⟨nvB y gk, rfl, rfl⟩
        | false =>
          rw [hyl, if_neg (by simp)] at hr
          subst hr
          have hkr : (wr.drew.setRow (w.heap.size + 1) (nvB y gk).cells.toArray).heap[gk]? = some (.cells (flatR ys).toArray 60) := (setRow_other _ _ _ _ (by have := HBF.out.gk2; omega)).trans HBF.out.kr
          have hk1 : Keep (Own (w.heap.size + 4) wr) (OwnP P (wr.drew.setRow (w.heap.size + 1) (nvB y gk).cells.toArray)) wr (wr.drew.setRow (w.heap.size + 1) (nvB y gk).cells.toArray) :=
            Keep.setRowP (v := wr.drew) (base := w.heap.size + 4) (by omega) (fun k hk => HBASE.out k (by omega))
          have hk2 : Keep (OwnP P w) (OwnP P (wr.drew.setRow (w.heap.size + 1) (nvB y gk).cells.toArray)) w (wr.drew.setRow (w.heap.size + 1) (nvB y gk).cells.toArray) := fun k hK hk => by
            have e : (wr.drew.setRow (w.heap.size + 1) (nvB y gk).cells.toArray).heap[k]? = w.heap[k]? := (setRow_other _ _ _ _ (by omega)).trans (HBF.out.bel.block k hk)
            exact ⟨e, hK.1, fun o => (World.frozen?_of_block (w := w) e).trans (hK.2 o)⟩
          have hra := HRA.out.go hk1
          have hrl : rs.length = 16 := by rw [hra.1, HYL.out]
          refine ⟨nvB y gk, rfl, rfl, agk_nil _ _, (liesP_agk HY.out).go hk2, refAt_zero _ _, ⟨hrl.symm, Nat.le_refl _, by show 16 ≤ maxLen; unfold maxLen; omega, by show 16 ≤ 2199023255488; omega, fun h => by cases h⟩, ?_⟩
          exact kidsAt_row hkr ⟨HBASE.out gk (by have := HBF.out.gk2; omega), fun o => frozen_of_row _ _ _ _ _ hkr⟩ hra
end Go.Proofs.YtdkpilgelgjieaaGreat

/- A tree and a list in order that say the same; two ways to one tree. -/
import Derived.Test.YtalhnnjpjaeakaaGreatG22
import Derived.Test.YtalhnnjpjaeakaaGreatG21
import Derived.Maps.AppendAt
import Derived.Deep.DeepAppendWide
import Derived.Test.YtalhnnjpjaeakaaGreatG15
import Derived.Test.YtalhnnjpjaeakaaGreatG18
namespace Go.Proofs.YtalhnnjpjaeakaaGreat
open Tr
open Ni (lessP)
set_option linter.unusedVariables false
/-- The tree and the list say the same. -/
structure Rel (t : Tr) (l : PList) : Prop where
  s : SrtP l
  m : ∀ k x, (k, x) ∈ l ↔ (Byk k ∧ k.length ≤ 32 ∧ x ≠ [] ∧ Tr.get t (Ni.nib k) = x)
  e : ∀ p, Nb p → Tr.get t p ≠ [] → ∃ k, Byk k ∧ k.length ≤ 32 ∧ p = Ni.nib k
  v : ∀ k x, (k, x) ∈ l → x.length ≤ 256
  ok : t = no ∨ Tr.Ok 64 t
def putL (l : PList) (k x : List Int) : PList := if k.length ≤ 32 ∧ 0 < x.length ∧ x.length ≤ 256 then putR k x l else l
def delL (l : PList) (k : List Int) : PList := if k.length ≤ 32 then delR k l else l
theorem Rel.nil : Rel no [] := ⟨by simp [SrtP], fun k x => ⟨fun h => by simp at h, fun h => absurd h.2.2.2.symm h.2.2.1⟩, fun p _ h => absurd rfl h, (fun k x h => by simp at h), .inl rfl⟩
theorem byk_nb {k : List Int} (h : Byk k) : Nb (Ni.nib k) := nib_nb h
theorem putT_ok {t : Tr} {k x : List Int} (h : t = no ∨ Tr.Ok 64 t) (hk : Byk k) : putT t k x = no ∨ Tr.Ok 64 (putT t k x) := by
  unfold putT
  split
  · rename_i hc
    exact .inr (put_ok t 64 _ _ h (byk_nb hk) (by rw [Ni.nib_len]; omega) (fun e => by rw [e] at hc; simp at hc))
  · exact h
theorem delT_ok {t : Tr} {k : List Int} (h : t = no ∨ Tr.Ok 64 t) (hk : Byk k) : delT t k = no ∨ Tr.Ok 64 (delT t k) := by
  unfold delT
  split
  · rename_i hc
    rcases h with rfl | h
    · exact absurd rfl hc.2
    · exact (del_ok t 64 _ h (byk_nb hk) hc.2).1
  · exact h
theorem putT_get {t : Tr} {k x : List Int} (h : t = no ∨ Tr.Ok 64 t) (hk : Byk k) {q : List Int} (hq : Nb q) : Tr.get (putT t k x) q = if (k.length ≤ 32 ∧ 0 < x.length ∧ x.length ≤ 256) ∧ q = Ni.nib k then x else Tr.get t q := by
  unfold putT
  split
  · rename_i hc
    rw [get_put t 64 _ _ _ h (byk_nb hk) hq]
    by_cases e : q = Ni.nib k
    · rw [if_pos e, if_pos ⟨hc, e⟩]
    · rw [if_neg e, if_neg (fun z => e z.2)]
  · rename_i hc
    rw [if_neg (fun z => hc z.1)]
theorem delT_get {t : Tr} {k : List Int} (h : t = no ∨ Tr.Ok 64 t) (hk : Byk k) {q : List Int} (hq : Nb q) : Tr.get (delT t k) q = if k.length ≤ 32 ∧ q = Ni.nib k then [] else Tr.get t q := by
  unfold delT
  split
  · rename_i hc
    rcases h with rfl | h
    · exact absurd rfl hc.2
    · rw [get_del t 64 _ _ h (byk_nb hk) hq hc.2]
      by_cases e : q = Ni.nib k
      · rw [if_pos e, if_pos ⟨hc.1, e⟩]
      · rw [if_neg e, if_neg (fun z => e z.2)]
  · rename_i hc
    by_cases e : k.length ≤ 32 ∧ q = Ni.nib k
    · rw [if_pos e, e.2]
      by_cases hg : Tr.get t (Ni.nib k) = []
      · exact hg
      · exact absurd ⟨e.1, hg⟩ hc
    · rw [if_neg e]
theorem nib_inj {a b : List Int} (h : Ni.nib a = Ni.nib b) : a = b := by rw [← Ni.kk_nib a, h, Ni.kk_nib]
theorem Rel.put {t : Tr} {l : PList} (h : Rel t l) {k x : List Int} (hk : Byk k) : Rel (putT t k x) (putL l k x) := by
  by_cases hc : k.length ≤ 32 ∧ 0 < x.length ∧ x.length ≤ 256
  · have el : putL l k x = putR k x l := if_pos hc
    have hx : x ≠ [] := fun e => by rw [e] at hc; simp at hc
    rw [el]
    refine ⟨srt_putR k x l h.s, fun k' x' => ?_, fun p hp hg => ?_, fun k' x' hm => ?_, putT_ok h.ok hk⟩
    · rw [mem_putR k x l h.s]
      constructor
      · rintro (⟨rfl, rfl⟩ | ⟨q1, q2⟩)
        · exact ⟨hk, hc.1, hx, by rw [putT_get h.ok hk (byk_nb hk), if_pos ⟨hc, rfl⟩]⟩
        · obtain ⟨h1, h2, h3, h4⟩ := (h.m k' x').1 q2
          exact ⟨h1, h2, h3, by rw [putT_get h.ok hk (byk_nb h1), if_neg (fun z => q1 (nib_inj z.2))]; exact h4⟩
      · rintro ⟨h1, h2, h3, h4⟩
        rw [putT_get h.ok hk (byk_nb h1)] at h4
        by_cases e : k' = k
        · subst e
          rw [if_pos ⟨hc, rfl⟩] at h4
          exact .inl ⟨rfl, h4.symm⟩
        · rw [if_neg (fun z => e (nib_inj z.2))] at h4
          exact .inr ⟨e, (h.m k' x').2 ⟨h1, h2, h3, h4⟩⟩
    · rw [putT_get h.ok hk hp] at hg
      by_cases e : p = Ni.nib k
      · exact ⟨k, hk, hc.1, e⟩
      · rw [if_neg (fun z => e z.2)] at hg
        exact h.e p hp hg
    · rcases (mem_putR k x l h.s k' x').1 hm with q | q
      · rw [q.2]; exact hc.2.2
      · exact h.v k' x' q.2
  · have e1 : putL l k x = l := if_neg hc
    have e2 : putT t k x = t := if_neg hc
    rw [e1, e2]; exact h
theorem Rel.del {t : Tr} {l : PList} (h : Rel t l) {k : List Int} (hk : Byk k) : Rel (delT t k) (delL l k) := by
  by_cases hc : k.length ≤ 32
  · have el : delL l k = delR k l := if_pos hc
    rw [el]
    refine ⟨srt_delR k l h.s, fun k' x' => ?_, fun p hp hg => ?_, fun k' x' hm => h.v k' x' ((mem_delR k l h.s k' x').1 hm).2, delT_ok h.ok hk⟩
    · rw [mem_delR k l h.s]
      constructor
      · rintro ⟨q1, q2⟩
        obtain ⟨h1, h2, h3, h4⟩ := (h.m k' x').1 q2
        exact ⟨h1, h2, h3, by rw [delT_get h.ok hk (byk_nb h1), if_neg (fun z => q1 (nib_inj z.2))]; exact h4⟩
      · rintro ⟨h1, h2, h3, h4⟩
        rw [delT_get h.ok hk (byk_nb h1)] at h4
        by_cases e : k' = k
        · subst e
          rw [if_pos ⟨hc, rfl⟩] at h4
          exact absurd h4.symm h3
        · rw [if_neg (fun z => e (nib_inj z.2))] at h4
          exact ⟨e, (h.m k' x').2 ⟨h1, h2, h3, h4⟩⟩
    · rw [delT_get h.ok hk hp] at hg
      by_cases e : p = Ni.nib k
      · rw [if_pos ⟨hc, e⟩] at hg; exact absurd rfl hg
      · rw [if_neg (fun z => e z.2)] at hg
        exact h.e p hp hg
  · have e1 : delL l k = l := if_neg hc
    have e2 : delT t k = t := if_neg (fun z => hc z.1)
    rw [e1, e2]; exact h
theorem Rel.ents {t : Tr} {l : PList} (h : Rel t l) : entsF [] t = l := by
  rcases h.ok with rfl | hO
  · rw [show entsF [] no = [] from rfl]
    cases l with
    | nil => rfl
    | cons e r =>
      obtain ⟨k, x⟩ := e
      obtain ⟨_, _, h3, h4⟩ := (h.m k x).1 (by simp)
      exact absurd h4.symm h3
  · have hkey : ∀ p x, (p, x) ∈ entsR t → ∃ k, Byk k ∧ k.length ≤ 32 ∧ p = Ni.nib k ∧ (Ni.keyP p).1 = k := by
      intro p x hm
      obtain ⟨h1, h2, h3⟩ := (mem_ents t hO p x).1 hm
      obtain ⟨k, k1, k2, k3⟩ := h.e p h1 (by rw [h2]; exact h3)
      exact ⟨k, k1, k2, k3, by rw [k3, Ni.key_nib k1]⟩
    rw [entsF_eq]
    refine srtP_uniq _ _ ?_ h.s (fun y => ?_)
    · unfold SrtP
      rw [List.pairwise_map]
      refine List.Pairwise.imp_of_mem ?_ (srt_ents t)
      rintro ⟨p, x⟩ ⟨p', x'⟩ hm hm' hl
      obtain ⟨k, _, _, k3, k4⟩ := hkey p x hm
      obtain ⟨k', _, _, k3', k4'⟩ := hkey p' x' hm'
      show lessP (Ni.keyP ([] ++ p)).1 (Ni.keyP ([] ++ p')).1 = true
      rw [List.nil_append, List.nil_append, k4, k4', ← Ni.less_nib, ← k3, ← k3']
      exact hl
    · obtain ⟨k, x⟩ := y
      constructor
      · intro hm
        obtain ⟨⟨p, x'⟩, hm', he⟩ := List.mem_map.1 hm
        obtain ⟨k', k1, k2, k3, k4⟩ := hkey p x' hm'
        obtain ⟨h1, h2, h3⟩ := (mem_ents t hO p x').1 hm'
        simp only [List.nil_append, k4, Prod.mk.injEq] at he
        obtain ⟨rfl, rfl⟩ := he
        exact (h.m k' x').2 ⟨k1, k2, h3, by rw [← k3]; exact h2⟩
      · intro hm
        obtain ⟨k1, k2, h3, h4⟩ := (h.m k x).1 hm
        refine List.mem_map.2 ⟨(Ni.nib k, x), (mem_ents t hO _ _).2 ⟨byk_nb k1, h4, h3⟩, ?_⟩
        simp only [List.nil_append, Ni.key_nib k1]
theorem len_putL (l : PList) (k x : List Int) : (putL l k x).length ≤ l.length + 1 := by
  unfold putL
  split
  · exact len_putR k x l
  · omega
/-- What a tree has lies among these keys. -/
def Sup (u : Tr) (A : List Int → Prop) : Prop := ∀ q, Nb q → Tr.get u q ≠ [] → ∃ k, A k ∧ Byk k ∧ k.length ≤ 32 ∧ q = Ni.nib k
end Go.Proofs.YtalhnnjpjaeakaaGreat
/- An append onto a row of one's own, up to the greatest that the machine grants: where its result lies. -/
namespace Go.Proofs.YtalhnnjpjaeakaaGreat
open Go.RowKit
set_option linter.unusedVariables false
theorem app_at_wide {P : Program} (w : World) (base : Nat) (t ty e : TypeId) (i : TypeInfo) (z : Value) (size bytes : Nat) (ht : P.underlying t = some (.slice e)) (hi : P.info? e = some i) (hz : i.zero = some z)
    (hsize : i.size = size) (hby : i.bytes = bytes) (hzs : z.cells.size = size) (hsz : 0 < size)
    (v : Value) (n : Nat) (xs : List Value) (hown : w.ownsRow base e size v n xs)
    (a : Addr) (m c : Nat) (news : List Value) (hl : news.length = m * size) (hnews : ∀ j u, news[j]? = some u → w.cell? (a.add j) = some u) (h1 : ∀ u ∈ news, u.oneCell' = true) (hm0 : 0 < m)
    (h63 : n + m ≤ maxLen) (hbytes : ((n + m) + (n + m) / 4 + 192) * bytes ≤ 281474976710656) (hbase : base ≤ w.heap.size) :
    ∃ v' w', (Builtin.append_ #[t, t] ty #[v, .slice (some a) m c]).run P w = .ok v' w' ∧ w'.ownsRow base e size v' (n + m) (xs ++ news) ∧ w.grownBy w' v.ownBlock ∧
      (v' = .slice none 0 0 ↔ v = .slice none 0 0 ∧ m = 0) ∧ (v'.ownBlock = v.ownBlock ∨ v'.ownBlock = some w.heap.size) := by
  obtain ⟨v', w', r1, r2, r3, r4⟩ := run_append_own_wide w base t ty e i z size bytes ht hi hz hsize hby hzs hsz v n xs hown a m c news hl hnews h1 h63 hbytes hbase
  refine ⟨v', w', r1, r2, r3, r4, ?_⟩
  subst hsize
  subst hby
  have hsmall : n + m ≤ 9223372036854775807 := by simp only [maxLen] at h63; omega
  rcases hown.2 with ⟨rfl, rfl⟩ | ⟨g, cap, cur, rfl, hbg, hg, hnc, hcm, hcs, htake⟩
  · have hr := run_append_nil (P := P) w t ty e i z ht hi hz a m c news hl hnews hm0 (by omega) (by
      have h2 : m * i.bytes ≤ (0 + m + (0 + m) / 4 + 192) * i.bytes := Nat.mul_le_mul_right _ (by omega)
      omega)
    rw [hr] at r1
    cases r1
    exact .inr rfl
  · by_cases hroom : n + m ≤ cap
    · have hfit : n * i.size + news.length ≤ cur.size := by rw [hl, hcs, ← Nat.add_mul]; exact Nat.mul_le_mul_right _ hroom
      have hr := run_append_room (P := P) w t ty e i ht hi g n cap cur hg a m c news hl hnews h1 hroom hfit
      rw [hr] at r1
      cases r1
      exact .inl rfl
    · have holds : ∀ j u, xs[j]? = some u → w.cell? ((⟨g, 0, none⟩ : Addr).add j) = some u := hown.cells (g := g) rfl
      have hr := run_append_grow (P := P) w t ty e i z ht hi hz ⟨g, 0, none⟩ n cap xs hown.1 holds a m c news hl hnews (by omega) (by omega) (growslice_fits_wide (by omega) hbytes)
      rw [hr] at r1
      cases r1
      exact .inr rfl
end Go.Proofs.YtalhnnjpjaeakaaGreat
/- Steps that make memory, and a reference that is stored within a row of them. -/
namespace Go.Proofs.YtalhnnjpjaeakaaGreat
open Go.RowKit
set_option linter.unusedVariables false
set_option maxRecDepth 100000
/-- The cells of a row of references. -/
def flatR (ys : List RV) : List Value := ys.flatMap RV.cells
theorem flatR_len : ∀ {ys : List RV}, (∀ y ∈ ys, y.d.length = 32) → (flatR ys).length = ys.length * 34
  | [], _ => rfl
  | y :: r, h => by
    have ih := flatR_len fun z hz => h z (List.mem_cons_of_mem _ hz)
    unfold flatR at ih ⊢
    rw [List.flatMap_cons, List.length_append, ih, RV.len (h y (by simp)), List.length_cons]
    omega
theorem flatR_app (a b : List RV) : flatR (a ++ b) = flatR a ++ flatR b := by unfold flatR; rw [List.flatMap_append]
theorem flatR_one (y : RV) : flatR [y] = y.cells := by unfold flatR; rw [List.flatMap_cons, List.flatMap_nil, List.append_nil]
theorem infoRz : ∃ i, Tryz.prog.info? 62 = some i ∧ i.zero = some (.agg rz.cells.toArray) ∧ i.size = 34 ∧ i.bytes = 64 := by
  have h : (Tryz.prog.info? 62).map (fun i => (i.zero, i.size, i.bytes)) = some (some (.agg rz.cells.toArray), 34, 64) := by kernel_rfl
  cases hq : Tryz.prog.info? 62 with
  | none => rw [hq] at h; simp at h
  | some i => rw [hq] at h; simp at h; exact ⟨i, rfl, h.1, h.2.1, h.2.2⟩
theorem made16 : madeCells (Value.agg rz.cells.toArray).cells ((16 : Int).toNat * 34) = (flatR (List.replicate 16 rz)).toArray := by kernel_rfl
section
variable {a : Act} {w : World}
theorem rd_make16 {o : Oper} (ho : o.op = .makeSlice 90 (.const (.int .i64 16)) (.const (.int .i64 16))) : (execOp a.eval o).run Tryz.prog w = .ok (.value (.slice (some ⟨w.heap.size, 0, none⟩) 16 16)) (w.alloc (.cells (flatR (List.replicate 16 rz)).toArray 62)) := by
  obtain ⟨i, hi, hz, hsz, hby⟩ := infoRz
  have hr : (Instr.makeSlice 90 (.int .i64 16) (.int .i64 16)).run Tryz.prog w = .ok (.slice (some ⟨w.heap.size, 0, none⟩) 16 16) (w.alloc (.cells (flatR (List.replicate 16 rz)).toArray 62)) := by
    have h := run_make (P := Tryz.prog) w 90 62 i _ Tryz.underlying90 hi hz .i64 .i64 16 16 (by omega) (by omega) (by rw [hby]; omega) (by omega)
    rw [hsz, show madeCells (Value.agg rz.cells.toArray).cells ((16 : Int).toNat * 34) = (flatR (List.replicate 16 rz)).toArray from made16] at h
    exact h
  unfold execOp
  rw [ho]
  simp only [Act.eval, Sem.run_bind, hr, Result.andThen_ok, Sem.run_pure]
theorem rd_allocN {o : Oper} (ho : o.op = .alloc 92) : (execOp a.eval o).run Tryz.prog w = .ok (.value (.pointer (some ⟨w.heap.size, 0, none⟩))) (w.alloc (.cells nz.cells.toArray 92)) := by
  unfold execOp
  rw [ho]
  go_simp
  rfl
theorem rd_storeAt {x y : Operand} {o : Oper} (ho : o.op = .store 62 x y) (g off : Nat) (r : RV) (hl : r.d.length = 32) (hx : a.eval x = .pointer (some ⟨g, off, none⟩)) (hy : a.eval y = .agg r.cells.toArray) (t : TypeId) (cur : Array Value)
    (hg : w.heap[g]? = some (.cells cur t (0, 0))) (hfit : off + 34 ≤ cur.size) :
    (execOp a.eval o).run Tryz.prog w = .ok .skip (w.setRow g (cur.toList.take off ++ r.cells ++ cur.toList.drop (off + 34)).toArray) := by
  have hst := run_storeCells_at Tryz.prog g off t r.cells 0 cur w hg (by rw [RV.len hl]; omega) r.one
  have hi := infoR
  cases hq : Tryz.prog.info? 62 with
  | none => rw [hq] at hi; simp at hi
  | some i =>
    have hs : i.size = 34 := by rw [hq] at hi; simpa using hi
    have hsv : (storeVar 62 ⟨g, off, none⟩ (.agg r.cells.toArray)).run Tryz.prog w = .ok () (w.setRow g (cur.toList.take off ++ r.cells ++ cur.toList.drop (off + 34)).toArray) := by
      rw [RV.len hl] at hst
      simp [storeVar, sizeOf, typeInfo, hq, Value.cells, hs, RV.len hl]
      simpa using hst
    unfold execOp
    rw [ho]
    simp only [hx, hy, Instr.storeAt, Instr.sureAddr, Sem.run_bind, Sem.run_pure, Result.andThen_ok, hsv]
end
end Go.Proofs.YtalhnnjpjaeakaaGreat
/- What branchNode answers. -/
namespace Go.Proofs.YtalhnnjpjaeakaaGreat
open Go.RowKit
set_option linter.unusedVariables false
set_option maxRecDepth 100000
theorem kids_none : ∀ {ts : List T} {t : T}, t ∈ ts → refOfP t = none → kidsP ts = none
  | x :: l, t, ht, h => by
    rw [kidsP]
    rcases List.mem_cons.1 ht with rfl | ht
    · rw [h]
    · rw [kids_none ht h]
      cases refOfP x <;> rfl
theorem kids_snoc : ∀ {ts : List T} {rs : List PR} {t : T} {r : PR}, kidsP ts = some rs → refOfP t = some r → kidsP (ts ++ [t]) = some (rs ++ [r])
  | [], rs, t, r, h, hr => by
    cases h
    rw [List.nil_append, kidsP, hr, kidsP]
    rfl
  | x :: l, rs, t, r, h, hr => by
    rw [kidsP] at h
    rw [List.cons_append, kidsP]
    cases hx : refOfP x with
    | none => rw [hx] at h; cases h
    | some a =>
      rw [hx] at h
      dsimp only at h ⊢
      cases hk : kidsP l with
      | none => rw [hk] at h; cases h
      | some l' =>
        rw [hk] at h
        cases h
        rw [kids_snoc hk hr]
        rfl
/-- References, one behind the other. -/
def RefsAt (K : Nat → Prop) (w : World) (ys : List RV) (rs : List PR) : Prop := rs.length = ys.length ∧ (∀ y ∈ ys, y.d.length = 32) ∧ ∀ (i : Nat) (y : RV) (r : PR), ys[i]? = some y → rs[i]? = some r → RefAt K w y r
theorem RefsAt.go {K L : Nat → Prop} {w w' : World} (hk : Keep K L w w') {ys : List RV} {rs : List PR} (h : RefsAt K w ys rs) : RefsAt L w' ys rs := ⟨h.1, h.2.1, fun i y r h1 h2 => (h.2.2 i y r h1 h2).go hk⟩
theorem RefsAt.snoc {K : Nat → Prop} {w : World} {ys : List RV} {rs : List PR} {y : RV} {r : PR} (h : RefsAt K w ys rs) (hy : RefAt K w y r) : RefsAt K w (ys ++ [y]) (rs ++ [r]) := by
  refine ⟨by simp [h.1], fun z hz => ?_, fun i z s h1 h2 => ?_⟩
  · rcases List.mem_append.1 hz with hz | hz
    · exact h.2.1 z hz
    · simp only [List.mem_cons, List.not_mem_nil, or_false] at hz; rw [hz]; exact hy.len
  · by_cases hi : i < ys.length
    · rw [List.getElem?_append_left hi] at h1
      rw [List.getElem?_append_left (by rw [h.1]; exact hi)] at h2
      exact h.2.2 i z s h1 h2
    · have hi2 : i = ys.length := by
        have := (List.getElem?_eq_some_iff.1 h1).1
        simp at this; omega
      subst hi2
      simp at h1
      rw [← h.1] at h2
      simp at h2
      rw [← h1, ← h2]; exact hy
theorem flat_at {pre : List RV} {y : RV} {post : List RV} (hp : ∀ z ∈ pre, z.d.length = 32) {j : Nat} {u : Value} (h : y.cells[j]? = some u) : (flatR (pre ++ y :: post))[pre.length * 34 + j]? = some u := by
  have e : flatR (pre ++ y :: post) = flatR pre ++ (y.cells ++ flatR post) := by
    rw [flatR_app, show y :: post = [y] ++ post from rfl, flatR_app, flatR_one]
  rw [e, List.getElem?_append_right (by rw [flatR_len hp]; omega), flatR_len hp, show pre.length * 34 + j - pre.length * 34 = j from by omega, List.getElem?_append_left (List.getElem?_eq_some_iff.1 h).1]
  exact h
/-- A whole row of references is a node's kids. -/
theorem kidsAt_row {K : Nat → Prop} {w : World} {g : Nat} {ys : List RV} {rs : List PR} (hr : w.heap[g]? = some (.cells (flatR ys).toArray 62)) (hK : K g) (h : RefsAt K w ys rs) : KidsAt K w (some ⟨g, 0, none⟩) rs := fun j r hj => by
  have hjl : j < ys.length := by rw [← h.1]; exact (List.getElem?_eq_some_iff.1 hj).1
  refine ⟨g, 0, ys[j], rfl, hK, fun k u hu => ?_, h.2.2 j _ r (List.getElem?_eq_getElem hjl) hj⟩
  rw [cell_of_row _ _ _ _ _ _ hr, List.getElem?_toArray]
  have e : ys = ys.take j ++ ys[j] :: ys.drop (j + 1) := by rw [← List.drop_eq_getElem_cons hjl, List.take_append_drop]
  have hl : (ys.take j).length = j := by rw [List.length_take]; omega
  have hf := flat_at (pre := ys.take j) (post := ys.drop (j + 1)) (fun z hz => h.2.1 z (List.mem_of_mem_take hz)) hu
  rw [hl, ← e] at hf
  rw [show 0 + j * 34 + k = j * 34 + k from by omega]
  exact hf
/-- One reference stored in its place. -/
theorem flat_put {pre : List RV} {z y : RV} {post : List RV} (hp : ∀ x ∈ pre, x.d.length = 32) (hz : z.d.length = 32) :
    (flatR (pre ++ z :: post)).take (pre.length * 34) ++ y.cells ++ (flatR (pre ++ z :: post)).drop (pre.length * 34 + 34) = flatR (pre ++ y :: post) := by
  have e : ∀ x : RV, flatR (pre ++ x :: post) = flatR pre ++ (x.cells ++ flatR post) := fun x => by
    rw [flatR_app, show x :: post = [x] ++ post from rfl, flatR_app, flatR_one]
  rw [e z, e y]
  have l1 := flatR_len hp
  rw [List.take_append_of_le_length (by omega), List.take_of_length_le (by omega), List.drop_append, List.drop_of_length_le (by omega), List.nil_append, l1, show pre.length * 34 + 34 - pre.length * 34 = 34 from by omega, List.drop_append, List.drop_of_length_le (by rw [RV.len hz]; omega), List.nil_append, RV.len hz, Nat.sub_self, List.drop_zero, List.append_assoc]
section
variable {w : World} {ops : Array Oper} {rest : List Oper} {o : Oper} {a : Act} {Q : Exit → Act → World → Prop}
theorem wpl_storeAt (hw : Region.wanted o (yielded ops a.tmps) = true) (x y : Operand) (ho : o.op = .store 62 x y) (g off : Nat) (r : RV) (hl : r.d.length = 32) (hx : a.eval x = .pointer (some ⟨g, off, none⟩)) (hy : a.eval y = .agg r.cells.toArray) (t : TypeId) (cur : Array Value)
    (hg : w.heap[g]? = some (.cells cur t (0, 0))) (hfit : off + 34 ≤ cur.size) (h : wpList Tryz.prog ops Q rest (a.put o.dst undef) (w.setRow g (cur.toList.take off ++ r.cells ++ cur.toList.drop (off + 34)).toArray)) : wpList Tryz.prog ops Q (o :: rest) a w :=
  wants hw fun K hK => by
    unfold Oper.wp
    rw [rd_storeAt ho g off r hl hx hy t cur hg hfit, Oper.upon_skip]
    exact hK _ _ h
end
/-- The value's box and the result's, while branchNode goes on. -/
structure Pb (w v : World) (y : V) : Prop where
  row : v.heap[w.heap.size + 1]? = some (.cells nz.cells.toArray 92)
  bx : B1 w.heap.size v y
  bel : Below w.heap.size w v
  sz : v.heap.size = w.heap.size + 2
theorem pb_new (w : World) (y : V) : Pb w ((w.alloc (.cells #[.bool y.l, .slice y.ba y.bn y.bc, .slice y.ia y.m y.ic] 110)).alloc (.cells nz.cells.toArray 92)) y := by
  have s1 : (w.alloc (.cells #[.bool y.l, .slice y.ba y.bn y.bc, .slice y.ia y.m y.ic] 110)).heap.size = w.heap.size + 1 := by simp
  refine ⟨?_, (b1_new w y).alloc _, below_go (below_new w _) (below_new _ _), by simp⟩
  have := heap_alloc_new (w.alloc (.cells #[.bool y.l, .slice y.ba y.bn y.bc, .slice y.ia y.m y.ic] 110)) (.cells nz.cells.toArray 92)
  rwa [s1] at this
def nvB (y : V) (gk : Nat) : NV := ⟨3, none, 0, 0, y.ba, y.bn, y.bc, rz, some ⟨gk, 0, none⟩, 16, 16⟩
/-- The node that is filled, while branchNode goes on. -/
structure Bk (w u : World) (y : V) (gk gn : Nat) (C : List RV) : Prop where
  row : u.heap[w.heap.size + 1]? = some (.cells nz.cells.toArray 92)
  bx : B1 w.heap.size u y
  nb : NBx gn u (nvB y gk)
  kr : u.heap[gk]? = some (.cells (flatR C).toArray 62)
  bel : Below w.heap.size w u
  gk2 : w.heap.size + 2 ≤ gk ∧ gk < w.heap.size + 4
  gn2 : w.heap.size + 2 ≤ gn ∧ gn < w.heap.size + 4
  ne : gk ≠ gn
  sz : w.heap.size + 4 ≤ u.heap.size
theorem Bk.go {w u u' : World} {y : V} {gk gn : Nat} {C : List RV} (h : Bk w u y gk gn C) (hb : Below u.heap.size u u') : Bk w u' y gk gn C :=
  ⟨Below.row hb h.row, h.bx.go hb, h.nb.go hb, Below.row hb h.kr, below_go h.bel hb, h.gk2, h.gn2, h.ne, Nat.le_trans h.sz hb.size⟩
theorem Bk.put {w u : World} {y : V} {gk gn : Nat} {C D : List RV} (h : Bk w u y gk gn C) : Bk w (u.setRow gk (flatR D).toArray) y gk gn D :=
  ⟨(setRow_other _ _ _ _ (by have := h.gk2; omega)).trans h.row, b1_setRow h.bx (by have := h.gk2; omega), ⟨(setRow_other _ _ _ _ (Ne.symm h.ne)).trans h.nb.row, h.nb.l⟩, setRow_heap _ _ _ _ _ _ h.kr, Below.setRow h.bel (by have := h.gk2; omega) _, h.gk2, h.gn2, h.ne, by simpa using h.sz⟩
end Go.Proofs.YtalhnnjpjaeakaaGreat

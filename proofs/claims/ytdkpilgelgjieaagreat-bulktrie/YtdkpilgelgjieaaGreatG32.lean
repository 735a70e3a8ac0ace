/- Lists of keys and values in memory. -/
import Derived.Test.YtdkpilgelgjieaaGreatG31
import Derived.Test.YtdkpilgelgjieaaGreatG19
import Derived.Maps.AppendAt
import Derived.Laws.AppendOwnNone
import Derived.Test.YtdkpilgelgjieaaGreatG29
import Derived.Test.YtdkpilgelgjieaaGreatG01
import Derived.Test.YtdkpilgelgjieaaGreatG24
import Derived.Test.YtdkpilgelgjieaaGreatG30
namespace Go.Proofs.YtdkpilgelgjieaaGreat
open Go.RowKit
open Tr
set_option linter.unusedVariables false
set_option maxRecDepth 100000
def flatP (vs : List (Value × Value)) : List Value := vs.flatMap fun p => [p.1, p.2]
theorem flatP_len : ∀ vs : List (Value × Value), (flatP vs).length = vs.length * 2
  | [] => rfl
  | p :: r => by have := flatP_len r; simp only [flatP, List.flatMap_cons, List.length_append, List.length_cons, List.length_nil] at this ⊢; omega
theorem flatP_drop : ∀ (vs : List (Value × Value)) (m : Nat), flatP (vs.drop m) = (flatP vs).drop (m * 2)
  | [], m => by simp [flatP]
  | p :: r, 0 => by simp
  | p :: r, m + 1 => by
    rw [List.drop_succ_cons, flatP_drop r m, show (m + 1) * 2 = m * 2 + 1 + 1 from by omega]
    simp [flatP]
theorem flatP_get : ∀ (vs : List (Value × Value)) (j : Nat) (p : Value × Value), vs[j]? = some p → (flatP vs)[j * 2]? = some p.1 ∧ (flatP vs)[j * 2 + 1]? = some p.2
  | [], j, p, h => by simp at h
  | q :: r, 0, p, h => by simp at h; subst h; simp [flatP]
  | q :: r, j + 1, p, h => by
    have := flatP_get r j p (by simpa using h)
    rw [show (j + 1) * 2 = j * 2 + 1 + 1 from by omega]
    simpa [flatP] using this
/-- A pair of slices of bytes. -/
def Gp2 (K : Nat → Prop) (w : World) (p : Value × Value) (e : List Int × List Int) : Prop := ∃ a n c a' n' c', p.1 = .slice a n c ∧ p.2 = .slice a' n' c' ∧ Sk K w a n c e.1 ∧ Sk K w a' n' c' e.2
theorem Gp2.go {K : Nat → Prop} {w w' : World} {p : Value × Value} {e : List Int × List Int} (h : Gp2 K w p e) (hb : Below w.heap.size w w') : Gp2 K w' p e := by
  obtain ⟨a, n, c, a', n', c', h1, h2, h3, h4⟩ := h
  exact ⟨a, n, c, a', n', c', h1, h2, h3.go hb, h4.go hb⟩
/-- A slice of pairs in memory. -/
structure PAt (K : Nat → Prop) (w : World) (a : Option Addr) (n c : Nat) (vs : List (Value × Value)) (l : PList) : Prop where
  vl : vs.length = n
  ll : l.length = n
  nc : n ≤ c
  nil : a = none → n = 0 ∧ c = 0
  row : ∀ j u, (flatP vs)[j]? = some u → ∃ g off, a = some ⟨g, off, none⟩ ∧ w.cell? ⟨g, off + j, none⟩ = some u
  gd : ∀ (j : Nat) (p : Value × Value) (e : List Int × List Int), vs[j]? = some p → l[j]? = some e → Gp2 K w p e
  rk : ∀ x, a = some x → 0 < n → K x.block
section
variable {K : Nat → Prop} {w w' : World} {a : Option Addr} {n c : Nat} {vs : List (Value × Value)} {l : PList}
theorem PAt.go (h : PAt K w a n c vs l) (hb : Below w.heap.size w w') : PAt K w' a n c vs l := ⟨h.vl, h.ll, h.nc, h.nil, fun j u hj => by
  obtain ⟨g, off, h1, h2⟩ := h.row j u hj
  exact ⟨g, off, h1, (hb.cell (p := ⟨g, off + j, none⟩) (block_lt_of_cell h2)).trans h2⟩, fun j p e h1 h2 => (h.gd j p e h1 h2).go hb, h.rk⟩
theorem PAt.empty (K : Nat → Prop) (w : World) : PAt K w none 0 0 [] [] := ⟨rfl, rfl, Nat.le_refl _, fun _ => ⟨rfl, rfl⟩, (fun j u h => by simp [flatP] at h), (fun j p e h => by simp at h), fun x hx => by cases hx⟩
theorem PAt.old (h : PAt K w a n c vs l) : PAt (fun b => K b ∧ b < w.heap.size) w a n c vs l := ⟨h.vl, h.ll, h.nc, h.nil, h.row, fun j p e h1 h2 => by
  obtain ⟨a, n, c, a', n', c', q1, q2, q3, q4⟩ := h.gd j p e h1 h2
  exact ⟨a, n, c, a', n', c', q1, q2, ⟨q3.ag, fun x hx hn => ⟨q3.k x hx hn, q3.old hx hn⟩⟩, ⟨q4.ag, fun x hx hn => ⟨q4.k x hx hn, q4.old hx hn⟩⟩⟩, fun x hx hn => by
  refine ⟨h.rk x hx hn, ?_⟩
  obtain ⟨u, hu⟩ : ∃ u, (flatP vs)[0]? = some u := ⟨_, List.getElem?_eq_getElem (by rw [flatP_len, h.vl]; omega)⟩
  obtain ⟨g, off, e1, e2⟩ := h.row 0 u hu
  rw [hx] at e1; cases e1
  exact block_lt_of_cell e2⟩
theorem PAt.at (h : PAt K w a n c vs l) {j : Nat} (hj : j < n) : ∃ g off a1 n1 c1 a2 n2 c2 k x, a = some ⟨g, off, none⟩ ∧ l[j]? = some (k, x) ∧ w.cell? ⟨g, off + j * 2, none⟩ = some (.slice a1 n1 c1) ∧ w.cell? ⟨g, off + j * 2 + 1, none⟩ = some (.slice a2 n2 c2) ∧ Sk K w a1 n1 c1 k ∧ Sk K w a2 n2 c2 x := by
  obtain ⟨p, hp⟩ : ∃ p, vs[j]? = some p := ⟨_, List.getElem?_eq_getElem (by rw [h.vl]; exact hj)⟩
  obtain ⟨e, he⟩ : ∃ e, l[j]? = some e := ⟨_, List.getElem?_eq_getElem (by rw [h.ll]; exact hj)⟩
  obtain ⟨a1, n1, c1, a2, n2, c2, h1, h2, h3, h4⟩ := h.gd j p e hp he
  obtain ⟨f1, f2⟩ := flatP_get vs j p hp
  obtain ⟨g, off, e1, e2⟩ := h.row _ _ f1
  obtain ⟨g', off', e1', e2'⟩ := h.row _ _ f2
  rw [e1] at e1'
  cases e1'
  exact ⟨g, off, a1, n1, c1, a2, n2, c2, e.1, e.2, e1, he, by rw [e2, h1], by rw [Nat.add_assoc, e2', h2], h3, h4⟩
end
/-- A list in a row of one's own. -/
def OwnL (X : Nat → Prop) (w : World) (base : Nat) (v : Value) (l : PList) : Prop := (∀ b, base ≤ b → X b) ∧ ∃ vs : List (Value × Value), vs.length = l.length ∧ w.ownsRow base 34 2 v l.length (flatP vs) ∧ ∀ (j : Nat) (p : Value × Value) (e : List Int × List Int), vs[j]? = some p → l[j]? = some e → Gp2 (fun b => v.ownBlock ≠ some b ∧ X b) w p e
/-- One pair in a new block. -/
theorem PAt.one {K : Nat → Prop} {w w' : World} {g : Nat} {a a' : Option Addr} {n c n' c' : Nat} {k x : List Int} (h : New w w' g #[.slice a n c, .slice a' n' c'] 34) (h1 : Sk K w a n c k) (h2 : Sk K w a' n' c' x) (hKg : K g) : PAt K w' (some ⟨g, 0, none⟩) 1 1 [(.slice a n c, .slice a' n' c')] [(k, x)] := by
  refine ⟨rfl, rfl, Nat.le_refl _, (fun e => by cases e), fun j u hj => ⟨g, 0, rfl, ?_⟩, (fun j p e q1 q2 => ?_), fun x hx _ => by cases hx; exact hKg⟩
  · rw [cell_of_row _ _ _ _ _ _ h.row, Nat.zero_add]
    match j, hj with
    | 0, hj => exact hj
    | 1, hj => exact hj
    | j + 2, hj => simp [flatP] at hj
  · match j, q1, q2 with
    | 0, q1, q2 =>
      simp at q1 q2
      subst q1 q2
      exact ⟨a, n, c, a', n', c', rfl, rfl, h1.go h.below, h2.go h.below⟩
    | j + 1, q1, _ => simp at q1
end Go.Proofs.YtdkpilgelgjieaaGreat
/- The root of a list; what is done ahead of the statements. -/
namespace Go.Proofs.YtdkpilgelgjieaaGreat
open Go.RowKit
open Tr
open Di (dref)
set_option linter.unusedVariables false
set_option maxRecDepth 100000
def runE : Option (List Int) → PList → Int
  | _, [] => 0
  | lk, (k, x) :: r => if addE lk k x = 0 then runE (some k) r else addE lk k x
def runT : Tr → PList → Tr
  | t, [] => t
  | t, (k, x) :: r => runT (putT t k x) r
theorem results_dt {fn : Func} {p q : Tmp} {f : Nat → Value} (h : fn.results = #[.cell p 24, .tmp q]) (w : World) (g : Nat) (ds : List Int) (hl : ds.length = 32) (hp : f p = .pointer (some ⟨g, 0, none⟩)) {v : Value} (hq : f q = v) (hg : Rw g w (B8 ds) 24) : (resF f fn.results).run Tryz.prog w = .ok (.tuple #[.agg (B8 ds), v]) w := by
  have := run_loadVar_row (P := Tryz.prog) w g 24 24 _ _ _ hg Tryz.underlying24 rfl (infoD' hl)
  unfold resF
  rw [h]
  simp [hp, hq, this, asAddr]
theorem Bu.lo {Y : Nat → Prop} {w : World} {base gB m : Nat} {t : Tr} {lk : Option (List Int)} {vW : Value} (h : Bu Y w base gB m t lk vW) : (∀ k, vW.ownBlock = some k → base ≤ k ∧ k < w.heap.size) ∧ gB < w.heap.size := by
  obtain ⟨pV, rs, fs, h1, h2⟩ := h
  exact ⟨h1.wv.lo, lt_of_get h1.row⟩
theorem Bu.rebase {Y : Nat → Prop} {w : World} {base gB : Nat} {t : Tr} {lk : Option (List Int)} {vW : Value} (h : Bu Y w base gB 0 t lk vW) (b' : Nat) : Bu Y w b' gB 0 no none (.slice none 0 0) ∧ vW = .slice none 0 0 := by
  obtain ⟨pV, rs, fs, h1, h2⟩ := h
  rcases h2 with ⟨_, rfl, rfl, rfl, rfl, rfl, rfl⟩ | ⟨_, _, _, _, _, _, _, _, _, _, _, _, _, hm⟩
  · exact ⟨⟨_, [], [], ⟨h1.row, .inl ⟨rfl, rfl, rfl⟩, h1.kg, h1.sm⟩, .inl ⟨rfl, rfl, rfl, rfl, rfl, rfl, rfl⟩⟩, rfl⟩
  · omega
theorem Af.blw {gB : Nat} {w u w' : World} {v v' : Value} (h : Af gB u w' v v') (hb : Bl w u) (hg : w.heap.size ≤ gB) (ho : ∀ k, v.ownBlock = some k → w.heap.size ≤ k) : Bl w w' := ⟨h.os.trans (Below.os hb), h.tape.trans (Below.tape hb), h.output.trans (Below.output hb), Nat.le_trans hb.size h.size, fun k hk => (h.block k (Nat.lt_of_lt_of_le hk hb.size) (by omega) (fun e => by have := ho k e; omega)).trans (Below.block hb k hk)⟩
theorem rng2 {w : World} {g o : Nat} {u v : Value} (h1 : w.cell? ⟨g, o, none⟩ = some u) (h2 : w.cell? ⟨g, o + 1, none⟩ = some v) : w.rangeAt g o [u, v] := fun m x hm => by
  match m, hm with
  | 0, hm => simp at hm; subst hm; exact h1
  | 1, hm => simp at hm; subst hm; exact h2
  | m + 2, hm => simp at hm
theorem rootP_len8 (t : Tr) : (rootP t).length = 32 := by unfold rootP; split <;> exact dref_len _
theorem alive_add : addE none [97] [1] = 0 := by simp [addE]
theorem alive_tree : putT no [97] [1] = leaf [6, 1] [1] := by simp [putT, put, Ni.nib]
theorem alive_enc : encT (leaf [6, 1] [1]) = [196, 130, 32, 97, 1] := by kernel_rfl
theorem alive_root : rootP (putT no [97] [1]) = dref [196, 130, 32, 97, 1] := by rw [alive_tree, ← alive_enc]; rfl
set_option maxHeartbeats 4000000 in
theorem bulkroot_any {K : Nat → Prop} {w : World} {a : Option Addr} {n c : Nat} {vs : List (Value × Value)} {l : PList} (hl : PAt K w a n c vs l) (hn : n ≤ 2600000000000) :
    Calls Tryz.prog 8 #[.slice a n c] w fun e w' => ∃ u, e = .returned u ∧ (fun u w' => u = .tuple #[.agg (B8 (if runE none l = 0 then rootP (runT no l) else z32)), .int .i64 (runE none l)] ∧ Bl w w') u w' := by
  have hB := Bl.refl w
  have hlo := hl.old
  have hll := hl.ll
  refine cw_enter Tryz.func8 rfl 28 rfl ?_
  show CW _ _ _ _ _ _ _ [(0, .slice a n c)] _
  refine cw_seq ?_
  refine cw_region ?_
  refine rw_new 2 (B8 z32) 24 (fun _ => by kernel_rfl) (fun _ => by kernel_rfl) ?_
  intro w1 gd hnd
  replace hB := hB.go hnd.below
  have hrd : Rw gd w1 (B8 z32) 24 := hnd.row
  have hgd := hnd.hg
  have hz1 := hnd.size
  refine rp 3 (.int .i64 0) ?_
  refine rw_nil ?_
  refine nw_then ?_
  refine cw_seq ?_
  refine cw_region ?_
  refine rw_call 8 11 #[] (fun _ => by kernel_rfl) (fun _ => by kernel_rfl) (R := fun u w' => (∃ gB, u = .pointer (some ⟨gB, 0, none⟩) ∧ Bu (fun _ => True) w' w1.heap.size gB 0 no none (.slice none 0 0) ∧ w1.heap.size ≤ gB) ∧ Bl w1 w') (bnew_any (Y := fun _ => True) w1.heap.size) ?_
  rintro _ u1 ⟨⟨gB, rfl, hU, hgB⟩, hb1⟩
  replace hB := hB.go hb1
  replace hrd := hrd.go hb1
  refine rp 4 (.pointer (some ⟨gB, 0, none⟩)) ?_
  refine rw_nil ?_
  refine nw_then ?_
  refine cw_seq ?_
  refine cw_seq ?_
  refine cw_region ?_
  refine rp 9 (.slice a n c) ?_
  refine rp 10 (.int .i64 n) ?_
  refine rp 11 (.int .i64 0) ?_
  refine rw_nil ?_
  refine nw_then ?_
  refine cw_block ?_
  refine cw_loop (X := Nat × Tr × Option (List Int) × Value) (fun q => [(11, .int .i64 ((q.1 : Nat) : Int)), (9, .slice a n c), (10, .int .i64 n), (4, .pointer (some ⟨gB, 0, none⟩)), (2, .pointer (some ⟨gd, 0, none⟩))]) (fun q v => Bl w v ∧ Rw gd v (B8 z32) 24 ∧ Bu (fun _ => True) v w1.heap.size gB q.1 q.2.1 q.2.2.1 q.2.2.2 ∧ q.1 ≤ n ∧ runE none l = runE q.2.2.1 (l.drop q.1) ∧ runT no l = runT q.2.1 (l.drop q.1)) (fun q => n - q.1) (0, no, none, .slice none 0 0) (by exact ⟨fun _ => by kernel_rfl, ⟨fun _ => by kernel_rfl, ⟨fun _ => by kernel_rfl, ⟨fun _ => by kernel_rfl, ⟨fun _ => by kernel_rfl, trivial⟩⟩⟩⟩⟩) ⟨hB, hrd, hU, Nat.zero_le _, rfl, rfl⟩ ?_
  clear hB hrd hU
  rintro ⟨j, t, lk, vW⟩ v ⟨hB, hrd, hU, hj, hE, hT⟩
  simp only at hB hrd hU hj hE hT
  show CW _ _ _ _ _ _ _ [(11, .int .i64 ((j : Nat) : Int)), (9, .slice a n c), (10, .int .i64 n), (4, .pointer (some ⟨gB, 0, none⟩)), (2, .pointer (some ⟨gd, 0, none⟩))] _
  by_cases hlt : j < n
  · skip
    obtain ⟨gE, oE, a1, n1, c1, a2, n2, c2, k, x, ea, hej, hc1, hc2, hs1, hs2⟩ := (hlo.go hB).at hlt
    subst ea
    have hjl : l.drop j = (k, x) :: l.drop (j + 1) := by rw [List.drop_eq_getElem_cons (by omega)]; congr 1; exact (List.getElem?_eq_some_iff.1 hej).2
    rw [hjl] at hE hT
    refine cw_seq ?_
    refine cw_region ?_
    refine rv 12 (.bool true) (fun _ => ol_conv (v := .bool (decide (((j : Nat) : Int) < (n : Int)))) (by kernel_rfl) (congrArg Value.bool (decide_eq_true (by omega)))) ?_
    refine rw_nil ?_
    refine nw_then ?_
    refine cw_seq ?_
    refine cw_cond_t (fun _ => by kernel_rfl) ?_
    refine cw_skip ?_
    refine nw_then ?_
    refine cw_seq ?_
    refine cw_block ?_
    refine cw_seq ?_
    refine cw_region ?_
    refine rv 13 (.pointer (some ⟨gE, oE + j * 2, none⟩)) (fun _ => ol_index 22 _ _ gE oE j n c 2 34 rfl (by kernel_rfl) (by kernel_rfl) hlt Tryz.underlying22 (by kernel_rfl)) ?_
    refine rv 14 (.agg #[.slice a1 n1 c1, .slice a2 n2 c2]) (fun _ => ol_mid 34 _ gE (oE + j * 2) [.slice a1 n1 c1, .slice a2 n2 c2] _ rfl (by kernel_rfl) (rng2 hc1 hc2) Tryz.underlying34 rfl (by kernel_rfl)) ?_
    refine rw_new 6 #[.slice none 0 0, .slice none 0 0] 34 (fun _ => by kernel_rfl) (fun _ => by kernel_rfl) ?_
    intro wA gA hnA
    refine rw_put gA #[.slice a1 n1 c1, .slice a2 n2 c2] (fun _ => by kernel_rfl) (fun _ => ol_store 34 _ _ _ _ _ _ rfl (by kernel_rfl) (by kernel_rfl) hnA.row (by kernel_rfl) rfl (by kernel_rfl)) ?_
    intro wC hpC
    have hnC := hnA.put hpC
    have hgA := hnC.hg
    replace hB := hB.go hnC.below
    replace hrd := hrd.go hnC.below
    replace hU := hU.go hnC.below
    replace hs1 := hs1.go hnC.below
    replace hs2 := hs2.go hnC.below
    have hrA : Rw gA wC #[.slice a1 n1 c1, .slice a2 n2 c2] 34 := hnC.row
    refine rw_nil ?_
    refine nw_then ?_
    refine cw_seq ?_
    refine cw_region ?_
    refine rp 15 (.pointer (some ⟨gB, 0, none⟩)) ?_
    refine rp 16 (.pointer (some ⟨gA, 0, none⟩)) ?_
    refine rv 17 (.slice a1 n1 c1) (fun _ => ol_cell 32 _ ⟨gA, 0, none⟩ _ _ rfl (by kernel_rfl) (by rw [cell_of_row _ _ _ _ _ _ hrA]; rfl) Tryz.underlying32 rfl) ?_
    refine rp 18 (.pointer (some ⟨gA, 1, none⟩)) ?_
    refine rv 19 (.slice a2 n2 c2) (fun _ => ol_cell 32 _ ⟨gA, 1, none⟩ _ _ rfl (by kernel_rfl) (by rw [cell_of_row _ _ _ _ _ _ hrA]; rfl) Tryz.underlying32 rfl) ?_
    have hUl := hU.lo
    refine rw_call 20 12 #[.pointer (some ⟨gB, 0, none⟩), .slice a1 n1 c1, .slice a2 n2 c2] (fun _ => by kernel_rfl) (fun _ => by kernel_rfl) (R := RAd (fun _ => True) (wC) w1.heap.size gB j t lk vW k x) (badd_any hU (fun _ _ => trivial) (by have := hB.size; omega) (by omega) (hs1.mono (fun b hb => ⟨by have := hb.2; omega, by have := hb.2; omega⟩)) (hs2.mono (fun b hb => ⟨by have := hb.2; omega, by have := hb.2; omega⟩))) ?_
    rintro _ u2 ⟨rfl, vW2, hU2, hA2⟩
    have hgdl := lt_of_get hrd
    replace hrd : Rw gd u2 (B8 z32) 24 := (hA2.block gd hgdl (by omega) (fun e => by have := (hUl.1 gd e).1; omega)).trans hrd
    replace hB : Bl w u2 := hA2.blw hB (by omega) (fun k hk => by have := (hUl.1 k hk).1; omega)
    refine rp 7 (.int .i64 (addE lk k x)) ?_
    refine rw_nil ?_
    refine nw_then ?_
    refine cw_seq ?_
    refine cw_region ?_
    refine rp 21 (.int .i64 (addE lk k x)) ?_
    refine rp 22 (.bool (!((addE lk k x : Int) == (0 : Int)))) ?_
    refine rw_nil ?_
    refine nw_then ?_
    by_cases he : addE lk k x = 0
    · skip
      rw [show (!((addE lk k x : Int) == (0 : Int))) = false from by simp [he]]
      have hU := hU2
      rw [if_pos he, if_pos he, if_pos he] at hU
      refine cw_cond_f (fun _ => by kernel_rfl) ?_
      refine cw_skip ?_
      refine nw_block ?_
      refine nw_then ?_
      refine cw_region ?_
      refine rv 25 (.int .i64 (((j : Nat) : Int) + 1)) (fun _ => ol_conv (v := .int .i64 (IntKind.i64.wrap (((j : Nat) : Int) + 1))) (by kernel_rfl) (congrArg (Value.int .i64) (wrap64 (by omega) (by omega)))) ?_
      refine rp 11 (.int .i64 (((j : Nat) : Int) + 1)) ?_
      refine rw_nil ?_
      exact nw_round (E := fun q => [(11, .int .i64 ((q.1 : Nat) : Int)), (9, .slice (some ⟨gE, oE, none⟩) n c), (10, .int .i64 n), (4, .pointer (some ⟨gB, 0, none⟩)), (2, .pointer (some ⟨gd, 0, none⟩))]) (R := fun q v => Bl w v ∧ Rw gd v (B8 z32) 24 ∧ Bu (fun _ => True) v w1.heap.size gB q.1 q.2.1 q.2.2.1 q.2.2.2 ∧ q.1 ≤ n ∧ runE none l = runE q.2.2.1 (l.drop q.1) ∧ runT no l = runT q.2.1 (l.drop q.1)) (μ := fun q => n - q.1) (x := (j, t, lk, vW)) (j + 1, putT t k x, some k, vW2) (by exact ⟨fun _ => by kernel_rfl, ⟨fun _ => by kernel_rfl, ⟨fun _ => by kernel_rfl, ⟨fun _ => by kernel_rfl, ⟨fun _ => by kernel_rfl, trivial⟩⟩⟩⟩⟩) ⟨hB, hrd, hU, by simp only; omega, by simp only [runE] at hE; rw [if_pos he] at hE; exact hE, hT⟩ (by show n - (j + 1) < n - j; omega)
    · skip
      rw [show (!((addE lk k x : Int) == (0 : Int))) = true from by simp [he]]
      have hre : runE none l = addE lk k x := by rw [hE]; simp only [runE]; rw [if_neg he]
      refine cw_cond_t (fun _ => by kernel_rfl) ?_
      refine cw_seq ?_
      refine cw_region ?_
      refine rp 23 (.agg (B8 z32)) ?_
      refine rp 24 (.int .i64 (addE lk k x)) ?_
      refine rw_put gd (B8 z32) (fun _ => by kernel_rfl) (fun _ => ol_store 24 _ _ _ _ _ _ rfl (by kernel_rfl) (by kernel_rfl) hrd (infoD' (show z32.length = 32 from rfl)) (z8_size (show z32.length = 32 from rfl)) (B8_one _)) ?_
      intro uE hpE
      replace hB : Bl w uE := hpE.below hB (by omega) hB.size
      have hrE : Rw gd uE (B8 z32) 24 := hpE.row hrd
      refine rp 3 (.int .i64 (addE lk k x)) ?_
      refine rw_nil ?_
      refine nw_then ?_
      refine cw_ret ?_
      refine nw_ret_block ?_
      refine nw_ret_then ?_
      refine nw_ret_then ?_
      refine nw_ret_block ?_
      refine nw_ret_then ?_
      exact nw_ret_body (.tuple #[.agg (B8 z32), .int .i64 (addE lk k x)]) (fun _ => results_dt Tryz.results8 _ gd z32 rfl (by kernel_rfl) (by kernel_rfl) hrE) ⟨_, rfl, by rw [hre, if_neg he], hB⟩
  obtain rfl : j = n := by omega
  show CW _ _ _ _ _ _ _ [(11, .int .i64 ((j : Nat) : Int)), (9, .slice a j c), (10, .int .i64 ((j : Nat) : Int)), (4, .pointer (some ⟨gB, 0, none⟩)), (2, .pointer (some ⟨gd, 0, none⟩))] _
  rw [List.drop_of_length_le (by omega)] at hE hT
  simp only [runE, runT] at hE hT
  refine cw_seq ?_
  refine cw_region ?_
  refine rv 12 (.bool false) (fun _ => ol_conv (v := .bool (decide (((j : Nat) : Int) < ((j : Nat) : Int)))) (by kernel_rfl) (congrArg Value.bool (decide_eq_false (by omega)))) ?_
  refine rw_nil ?_
  refine nw_then ?_
  refine cw_seq ?_
  refine cw_cond_f (fun _ => by kernel_rfl) ?_
  refine cw_exit ?_
  refine nw_exit_then ?_
  refine nw_exit_then ?_
  refine nw_exit_here ?_
  refine nw_then ?_
  refine cw_seq ?_
  refine cw_region ?_
  refine rp 26 (.pointer (some ⟨gB, 0, none⟩)) ?_
  refine rw_call 27 15 #[.pointer (some ⟨gB, 0, none⟩)] (fun _ => by kernel_rfl) (fun _ => by kernel_rfl) (R := fun u w' => u = .agg (B8 (rootP t)) ∧ Bl (v) w') (broot_any hU) ?_
  rintro _ u5 ⟨rfl, hb5⟩
  replace hB := hB.go hb5
  replace hrd := hrd.go hb5
  replace hU := hU.go hb5
  refine rw_put gd (B8 (rootP t)) (fun _ => by kernel_rfl) (fun _ => ol_store 24 _ _ _ _ _ _ rfl (by kernel_rfl) (by kernel_rfl) hrd (infoD' (rootP_len8 t)) (z8_size (rootP_len8 t)) (B8_one _)) ?_
  intro uE hpE
  replace hB : Bl w uE := hpE.below hB (by omega) hB.size
  have hrE : Rw gd uE (B8 (rootP t)) 24 := hpE.row hrd
  refine rp 3 (.int .i64 0) ?_
  refine rw_nil ?_
  refine nw_then ?_
  refine cw_ret ?_
  exact nw_ret_body (.tuple #[.agg (B8 (rootP t)), .int .i64 0]) (fun _ => results_dt Tryz.results8 _ gd (rootP t) (rootP_len8 t) (by kernel_rfl) (by kernel_rfl) hrE) ⟨_, rfl, by rw [hE, if_pos rfl, hT], hB⟩
set_option maxHeartbeats 4000000 in
theorem alive_any {w : World} :
    Calls Tryz.prog 10 #[] w fun e w' => ∃ u, e = .returned u ∧ (fun u w' => u = .bool true ∧ Bl w w') u w' := by
  have hB := Bl.refl w
  have hdl := dref_len [196, 130, 32, 97, 1]
  obtain ⟨ds, hds⟩ : ∃ ds, dref [196, 130, 32, 97, 1] = ds := ⟨_, rfl⟩
  rw [hds] at hdl
  refine cw_enter Tryz.func10 rfl 45 rfl ?_
  show CW _ _ _ _ _ _ _ [] _
  refine cw_seq ?_
  refine cw_region ?_
  refine rp 0 (.bool false) ?_
  refine rw_nil ?_
  refine nw_then ?_
  refine cw_seq ?_
  refine cw_region ?_
  refine rw_newS 6 #[.int .u8 97] 5 1 (fun _ => by kernel_rfl) (fun _ => by kernel_rfl) ?_
  intro w1 g2 hn3
  obtain ⟨w4, hr5, hb6, hs7⟩ := const_a (x := 97) (by omega) hn3 (K := fun b => True) (fun _ _ => trivial)
  refine rw_v 7 (.slice (some ⟨g2, 0, none⟩) 1 1) (fun _ => by kernel_rfl) (fun _ => hr5 _ _ _ rfl (by kernel_rfl)) ?_
  replace hB := hB.go hb6
  refine rw_newS 8 #[.int .u8 1] 5 1 (fun _ => by kernel_rfl) (fun _ => by kernel_rfl) ?_
  intro w8 g9 hn10
  have hs11 : Sk (fun b => True) w8 (some ⟨g9, 0, none⟩) 1 1 [1] := one_sk (by omega) hn10 (fun _ _ => trivial)
  replace hB := hB.go hn10.below
  replace hs7 := hs7.go hn10.below
  refine rp 9 (.agg #[.slice (some ⟨g2, 0, none⟩) 1 1, .slice (some ⟨g9, 0, none⟩) 1 1]) ?_
  refine rw_newS 10 #[.slice (some ⟨g2, 0, none⟩) 1 1, .slice (some ⟨g9, 0, none⟩) 1 1] 34 1 (fun _ => by kernel_rfl) (fun _ => by kernel_rfl) ?_
  intro wP gP hnP
  have hP := PAt.one hnP hs7 hs11 trivial
  replace hB := hB.go hnP.below
  replace hs7 := hs7.go hnP.below
  replace hs11 := hs11.go hnP.below
  refine rw_call 11 8 #[.slice (some ⟨gP, 0, none⟩) 1 1] (fun _ => by kernel_rfl) (fun _ => by kernel_rfl) (R := fun u w' => u = .tuple #[.agg (B8 ds), .int .i64 0] ∧ Bl wP w') (((bulkroot_any hP (by omega)).mono (fun e w' ⟨u, e1, e2, e3⟩ => ⟨u, e1, by rw [e2, show runE none [([97], [1])] = 0 from by simp [runE, alive_add], if_pos rfl, show rootP (runT no [([97], [1])]) = ds from by rw [← hds, ← alive_root]; rfl], e3⟩))) ?_
  rintro _ u1 ⟨rfl, hb1⟩
  replace hB := hB.go hb1
  replace hs7 := hs7.go hb1
  replace hs11 := hs11.go hb1
  refine rp 5 (.tuple #[.agg (B8 ds), .int .i64 0]) ?_
  refine rp 12 (.agg (B8 ds)) ?_
  refine rp 13 (.int .i64 0) ?_
  have hz0 := hB.size
  refine rw_new 1 (B8 z32) 24 (fun _ => by kernel_rfl) (fun _ => by kernel_rfl) ?_
  intro w2 gd hnd
  replace hB := hB.go hnd.below
  replace hs7 := hs7.go hnd.below
  replace hs11 := hs11.go hnd.below
  have hrd : Rw gd w2 (B8 z32) 24 := hnd.row
  have hgd := hnd.hg
  refine rw_put gd (B8 ds) (fun _ => by kernel_rfl) (fun _ => ol_store 24 _ _ _ _ _ _ rfl (by kernel_rfl) (by kernel_rfl) hrd (infoD' hdl) (z8_size hdl) (B8_one _)) ?_
  intro w3 hpE
  replace hB : Bl w w3 := hpE.below hB (by omega) hB.size
  replace hrd : Rw gd w3 (B8 ds) 24 := hpE.row hrd
  refine rp 2 (.int .i64 0) ?_
  refine rw_nil ?_
  refine nw_then ?_
  refine cw_seq ?_
  refine cw_region ?_
  have hz3 := hB.size
  have hgd3 := lt_of_get hrd
  refine rw_call 14 11 #[] (fun _ => by kernel_rfl) (fun _ => by kernel_rfl) (R := fun u w' => (∃ gB, u = .pointer (some ⟨gB, 0, none⟩) ∧ Bu (fun _ => True) w' (w3.heap.size + 2) gB 0 no none (.slice none 0 0) ∧ w3.heap.size ≤ gB) ∧ Bl w3 w') (bnew_any (Y := fun _ => True) _) ?_
  rintro _ u4 ⟨⟨gB, rfl, hU, hgB⟩, hb4⟩
  replace hB := hB.go hb4
  replace hrd := hrd.go hb4
  refine rp 3 (.pointer (some ⟨gB, 0, none⟩)) ?_
  refine rw_nil ?_
  refine nw_then ?_
  refine cw_seq ?_
  refine cw_seq ?_
  refine cw_region ?_
  refine rp 15 (.pointer (some ⟨gB, 0, none⟩)) ?_
  refine rp 16 (.bool false) ?_
  refine rw_nil ?_
  refine nw_then ?_
  refine cw_cond_f (fun _ => by kernel_rfl) ?_
  refine cw_skip ?_
  refine nw_then ?_
  refine cw_seq ?_
  refine cw_region ?_
  refine rp 17 (.pointer (some ⟨gB, 0, none⟩)) ?_
  have hglhn14 := hU.lo.2
  refine rw_newS 18 #[.int .u8 97] 5 1 (fun _ => by kernel_rfl) (fun _ => by kernel_rfl) ?_
  intro w12 g13 hn14
  obtain ⟨w15, hr16, hb17, hs18⟩ := const_a (x := 97) (by omega) hn14 (K := fun b => gB < b) (fun _ _ => by omega)
  refine rw_v 19 (.slice (some ⟨g13, 0, none⟩) 1 1) (fun _ => by kernel_rfl) (fun _ => hr16 _ _ _ rfl (by kernel_rfl)) ?_
  replace hB := hB.go hb17
  replace hrd := hrd.go hb17
  replace hU := hU.go hb17
  have hglhn21 := hU.lo.2
  refine rw_newS 20 #[.int .u8 1] 5 1 (fun _ => by kernel_rfl) (fun _ => by kernel_rfl) ?_
  intro w19 g20 hn21
  have hs22 : Sk (fun b => gB < b) w19 (some ⟨g20, 0, none⟩) 1 1 [1] := one_sk (by omega) hn21 (fun _ _ => by omega)
  replace hB := hB.go hn21.below
  replace hrd := hrd.go hn21.below
  replace hU := hU.go hn21.below
  replace hs18 := hs18.go hn21.below
  have hU5 := (hU.rebase (w19).heap.size).1
  refine rw_call 21 12 #[.pointer (some ⟨gB, 0, none⟩), .slice (some ⟨g13, 0, none⟩) 1 1, .slice (some ⟨g20, 0, none⟩) 1 1] (fun _ => by kernel_rfl) (fun _ => by kernel_rfl) (R := fun u w' => u = .int .i64 0 ∧ ∃ vW, Bu (fun _ => True) w' (w19).heap.size gB 1 (putT no [97] [1]) (some [97]) vW ∧ Af gB (w19) w' (.slice none 0 0) vW) (((badd_any hU5 (fun _ _ => trivial) (Nat.le_refl _) (by omega) (hs18.keep (K := fun b => gB < b) (L := fun b => b < (w19).heap.size ∧ b ≠ gB) (fun b hb hl => ⟨rfl, hl, by omega⟩)) (hs22.keep (K := fun b => gB < b) (L := fun b => b < (w19).heap.size ∧ b ≠ gB) (fun b hb hl => ⟨rfl, hl, by omega⟩))).mono (fun e w' ⟨u, e1, e2, vW, e3, e4⟩ => ⟨u, e1, by rw [e2, alive_add], vW, by rw [alive_add, if_pos rfl, if_pos rfl, if_pos rfl] at e3; exact e3, e4⟩))) ?_
  rintro _ u6 ⟨rfl, vW, hU6, hA6⟩
  have hgdl := lt_of_get hrd
  have hrd6 : Rw gd u6 (B8 ds) 24 := (hA6.block gd hgdl (by omega) (by simp [KF, Value.ownBlock])).trans hrd
  have hB6 : Bl w u6 := hA6.blw hB (by omega) (fun k hk => by cases hk)
  clear hB hrd hU
  have hB := hB6
  have hrd := hrd6
  have hU := hU6
  refine rp 4 (.int .i64 0) ?_
  refine rw_nil ?_
  refine nw_then ?_
  refine cw_seq ?_
  refine cw_draw (fun v => Rw gd v (B8 ds) 24) (by kernel_rfl) (hrd.go (Below.refl _ _).drew) ?_
  replace hB := hB.drew
  replace hrd := hrd.go (Below.refl _ _).drew
  replace hU := hU.go (Below.refl _ _).drew
  refine dt 0 22 (.int .i64 0) (fun v hv _ => by kernel_rfl) hrd ?_
  refine dt 1 23 (.bool true) (fun v hv _ => by kernel_rfl) hrd ?_
  refine dt 2 24 (.bool true) (fun v hv _ => by kernel_rfl) hrd ?_
  refine dt 3 25 (.int .i64 0) (fun v hv _ => by kernel_rfl) hrd ?_
  refine dt 4 26 (.bool true) (fun v hv _ => by kernel_rfl) hrd ?_
  refine dt 5 27 (.bool true) (fun v hv _ => by kernel_rfl) hrd ?_
  refine dt 6 28 (.bool true) (fun v hv _ => by kernel_rfl) hrd ?_
  refine dt 7 29 (.agg (B8 ds)) (fun v hv _ => ol_row 24 _ _ _ _ _ _ rfl (by kernel_rfl) hv Tryz.underlying24 rfl (infoD' hdl)) hrd ?_
  refine dw_ready [8] (by kernel_rfl) (by simp) ?_
  refine ar_newS 8 30 #[.int .u8 196, .int .u8 130, .int .u8 32, .int .u8 97, .int .u8 1] 5 5 rfl (fun _ => by kernel_rfl) (fun _ => by kernel_rfl) (fun w' g h => hrd.go h.below) ?_ ar_nil
  intro w7 g7 hn7
  have hag : Ag w7 (some ⟨g7, 0, none⟩) 5 5 [196, 130, 32, 97, 1] := Ni.row_ag (show Ni.Row g7 w7 [196, 130, 32, 97, 1] from hn7.row) rfl (fun x hx => by simp at hx; omega) (show (5 : Nat) ≤ 9223372036854775807 by decide)
  replace hB := hB.go hn7.below
  replace hrd := hrd.go hn7.below
  replace hU := hU.go hn7.below
  refine dw_ready [9] (by kernel_rfl) (by simp) ?_
  refine ar_call 9 31 25 #[.slice (some ⟨g7, 0, none⟩) 5 5] rfl (fun _ => by kernel_rfl) (fun _ => by kernel_rfl) (R := fun u w' => u = .agg (B8 ds) ∧ Bl (w7) w') ((rdof_any (some ⟨g7, 0, none⟩) 5 5 _ (w7) hag (by omega)).mono (fun e w' h => ⟨_, by rw [h.1, hds], rfl, h.2⟩)) (fun u w' h => hrd.go h.2) ?_ ar_nil
  rintro _ u8 ⟨rfl, hbu8⟩
  replace hB := hB.go hbu8
  replace hrd := hrd.go hbu8
  replace hU := hU.go hbu8
  refine dt 10 32 (.bool true) (fun v hv _ => ol_eqD rfl (by kernel_rfl) (by kernel_rfl) hdl) hrd ?_
  refine dt 11 33 (.bool true) (fun v hv _ => by kernel_rfl) hrd ?_
  refine dt 12 34 (.bool true) (fun v hv _ => by kernel_rfl) hrd ?_
  refine dt 13 35 (.pointer (some ⟨gB, 0, none⟩)) (fun v hv _ => by kernel_rfl) hrd ?_
  refine dt 15 37 (.agg (B8 ds)) (fun v hv _ => ol_row 24 _ _ _ _ _ _ rfl (by kernel_rfl) hv Tryz.underlying24 rfl (infoD' hdl)) hrd ?_
  refine dw_ready [14] (by kernel_rfl) (by simp) ?_
  refine ar_call 14 36 15 #[.pointer (some ⟨gB, 0, none⟩)] rfl (fun _ => by kernel_rfl) (fun _ => by kernel_rfl) (R := fun u w' => u = .agg (B8 ds) ∧ Bl (u8) w') ((broot_any hU).mono (fun e w' ⟨u, e1, e2, e3⟩ => ⟨u, e1, by rw [e2, alive_root, hds], e3⟩)) (fun u w' h => hrd.go h.2) ?_ ar_nil
  rintro _ u9 ⟨rfl, hbu9⟩
  replace hB := hB.go hbu9
  replace hrd := hrd.go hbu9
  replace hU := hU.go hbu9
  refine dt 16 38 (.bool true) (fun v hv _ => ol_eqD rfl (by kernel_rfl) (by kernel_rfl) hdl) hrd ?_
  refine dt 17 39 (.bool true) (fun v hv _ => by kernel_rfl) hrd ?_
  refine dt 18 40 (.bool true) (fun v hv _ => by kernel_rfl) hrd ?_
  refine dt 19 41 (.pointer (some ⟨gB, 0, none⟩)) (fun v hv _ => by kernel_rfl) hrd ?_
  refine dw_ready [20] (by kernel_rfl) (by simp) ?_
  refine ar_call 20 42 14 #[.pointer (some ⟨gB, 0, none⟩)] rfl (fun _ => by kernel_rfl) (fun _ => by kernel_rfl) (R := fun u w' => u = .int .i64 1 ∧ Bl (u9) w') ((blen_any hU).mono (fun e w' ⟨u, e1, e2, e3⟩ => ⟨u, e1, e2, e3⟩)) (fun u w' h => hrd.go h.2) ?_ ar_nil
  rintro _ u10 ⟨rfl, hbu10⟩
  replace hB := hB.go hbu10
  replace hrd := hrd.go hbu10
  replace hU := hU.go hbu10
  refine dt 21 43 (.bool true) (fun v hv _ => by kernel_rfl) hrd ?_
  refine dt 22 44 (.bool true) (fun v hv _ => by kernel_rfl) hrd ?_
  refine dt 23 0 (.bool true) (fun v hv _ => by kernel_rfl) hrd ?_
  refine dw_done (by kernel_rfl) ?_
  refine nw_then ?_
  refine cw_ret ?_
  exact nw_ret_body (.bool true) (fun _ => by kernel_rfl) ⟨_, rfl, rfl, hB⟩
end Go.Proofs.YtdkpilgelgjieaaGreat
/- How many nodes a tree has: a Put adds three at most; no more are named than there are. -/
namespace Go.Proofs.YtdkpilgelgjieaaGreat
set_option linter.unusedVariables false
namespace Tr
def sz : Tr → Nat
  | no => 0
  | leaf _ _ => 1
  | ext _ c => sz c + 1
  | br k _ => ((List.range 16).map fun i => sz (k i)).sum + 1
theorem sz_upd (k : Nat → Tr) (i : Nat) (t : Tr) (m : Nat) (h : sz t ≤ sz (k i) + m) : ∀ n, ((List.range n).map fun j => sz (upd k i t j)).sum ≤ ((List.range n).map fun j => sz (k j)).sum + (if i < n then m else 0)
  | 0 => by simp
  | n + 1 => by
    have ih := sz_upd k i t m h n
    rw [List.range_succ, List.map_append, List.map_append, List.sum_append, List.sum_append]
    simp only [List.map_cons, List.map_nil, List.sum_cons, List.sum_nil, Nat.add_zero]
    by_cases e : n = i
    · subst e
      rw [upd_same, if_pos (by omega)]
      rw [if_neg (by omega)] at ih
      omega
    · rw [upd_other k t e]
      by_cases h2 : i < n
      · rw [if_pos (by omega)]; rw [if_pos h2] at ih; omega
      · rw [if_neg (by omega)]; rw [if_neg h2] at ih; omega
theorem sz_updB (k : Nat → Tr) (i : Nat) (t : Tr) (m : Nat) (x y : List Int) (h : sz t ≤ sz (k i) + m) : sz (br (upd k i t) x) ≤ sz (br k y) + m := by
  have := sz_upd k i t m h 16
  simp only [sz]
  split at this <;> omega
theorem sz_und (p : List Int) (t : Tr) : sz (und p t) ≤ sz t + 1 := by
  cases t with
  | no => simp [und, sz]
  | leaf q v => simp [und, sz]
  | ext q c => simp [und, sz]
  | br k v =>
    simp only [und]
    split
    · omega
    · simp only [sz]; omega
theorem sz_add (k : Nat → Tr) (x q v : List Int) : sz (add k x q v) ≤ sz (br k x) + 1 := by
  cases q with
  | nil => simp only [add, sz]; omega
  | cons i r => exact sz_updB k i.toNat (leaf r v) 1 x x (by simp only [sz]; omega)
theorem sz_addT (t : Tr) (q v : List Int) : sz (addT t q v) ≤ sz t + 1 := by
  cases t with
  | br k x => exact sz_add k x q v
  | no => simp [addT]
  | leaf p x => simp [addT]
  | ext p c => simp [addT]
theorem sz_nk (x : List Int) : sz (br nk x) = 1 := by
  simp only [sz]
  have : ((List.range 16).map fun i => sz (nk i)) = (List.range 16).map fun _ => 0 := by simp [nk, sz]
  rw [this]; rfl
theorem sz_put : ∀ (t : Tr) (q v : List Int), sz (put t q v) ≤ sz t + 3 := by
  intro t
  induction t with
  | no => intro q v; simp [put, sz]
  | leaf p x =>
    intro q v
    simp only [put]
    split
    · simp [sz]
    · have h1 := sz_und (q.take (Ni.com p q)) (addT (add nk [] (p.drop (Ni.com p q)) x) (q.drop (Ni.com p q)) v)
      have h2 := sz_addT (add nk [] (p.drop (Ni.com p q)) x) (q.drop (Ni.com p q)) v
      have h3 := sz_add nk [] (p.drop (Ni.com p q)) x
      have h4 := sz_nk []
      have h5 : sz (leaf p x) = 1 := rfl
      omega
  | ext p c ih =>
    intro q v
    simp only [put]
    split
    · have := ih (q.drop p.length) v
      simp only [sz]; omega
    · have h1 := sz_und (q.take (Ni.com p q)) (add (upd nk (p.getD (Ni.com p q) 0).toNat (und (p.drop (Ni.com p q + 1)) c)) [] (q.drop (Ni.com p q)) v)
      have h2 := sz_add (upd nk (p.getD (Ni.com p q) 0).toNat (und (p.drop (Ni.com p q + 1)) c)) [] (q.drop (Ni.com p q)) v
      have h3 := sz_updB nk (p.getD (Ni.com p q) 0).toNat (und (p.drop (Ni.com p q + 1)) c) (sz c + 1) [] [] (by have := sz_und (p.drop (Ni.com p q + 1)) c; omega)
      have h4 := sz_nk []
      have h5 : sz (ext p c) = sz c + 1 := rfl
      omega
  | br k x ih =>
    intro q v
    cases q with
    | nil => simp [put, sz]
    | cons i r => exact sz_updB k i.toNat (put (k i.toNat) r v) 3 x x (ih i.toNat r v)
theorem sum_le (f g : Nat → Nat) (h : ∀ i, f i ≤ g i) : ∀ l : List Nat, (l.map f).sum ≤ (l.map g).sum
  | [] => Nat.le_refl _
  | a :: l => by simp only [List.map_cons, List.sum_cons]; have := h a; have := sum_le f g h l; omega
theorem nm1_len (b : List Int) : (nm1 b).length ≤ 1 := by unfold nm1; split <;> simp
theorem nmd_len : ∀ t : Tr, (nmd t).length + (if t.isNo then 0 else 1) ≤ sz t := by
  intro t
  induction t with
  | no => simp [nmd, isNo, sz]
  | leaf p x => simp [nmd, isNo, sz]
  | ext p c ih =>
    simp only [nmd, isNo, sz, List.length_append, Bool.false_eq_true, if_false]
    have h1 := nm1_len (encT c)
    by_cases hc : c.isNo = true
    · rw [if_pos hc] at ih
      cases c with
      | no => simp [encT, nm1, nmd, sz]
      | leaf p x => simp [isNo] at hc
      | ext p x => simp [isNo] at hc
      | br p x => simp [isNo] at hc
    · rw [if_neg hc] at ih; omega
  | br k x ih =>
    rw [show (br k x).isNo = false from rfl]
    simp only [nmd, sz, Bool.false_eq_true, if_false, List.length_flatMap]
    have := sum_le (fun i => (if (k i).isNo then [] else nmd (k i) ++ nm1 (encT (k i))).length) (fun i => sz (k i)) (fun i => by
      have h1 := nm1_len (encT (k i))
      have h2 := ih i
      by_cases hc : (k i).isNo = true
      · simp [hc]
      · rw [if_neg hc] at h2
        simp only [hc, Bool.false_eq_true, if_false, List.length_append]
        omega) (List.range 16)
    omega
theorem nmd_le (t : Tr) : (nmd t).length ≤ sz t := by have := nmd_len t; omega
end Tr
open Tr
theorem sz_putT (t : Tr) (k x : List Int) : Tr.sz (putT t k x) ≤ Tr.sz t + 3 := by
  unfold putT
  split
  · exact sz_put _ _ _
  · omega
end Go.Proofs.YtdkpilgelgjieaaGreat
/- The statement BulkTrie: a trie into which the same keys were put has the same root. -/
namespace Go.Proofs.YtdkpilgelgjieaaGreat
open Go.RowKit
open Tr
open Di (dref)
set_option linter.unusedVariables false
set_option maxRecDepth 100000
theorem putR_end {k x : List Int} : ∀ {l : PList}, (∀ e ∈ l, Ni.lessP e.1 k = true) → putR k x l = l ++ [(k, x)]
  | [], _ => rfl
  | e :: r, h => by rw [putR, if_pos (h e (by simp)), putR_end (fun q hq => h q (List.mem_cons_of_mem _ hq))]; rfl
/-- No key behind the last one. -/
def Lst : Option (List Int) → PList → Prop
  | none, l => l = []
  | some k, l => ∀ e ∈ l, e.1 = k ∨ Ni.lessP e.1 k = true
theorem addE0 {lk : Option (List Int)} {k x : List Int} (h : addE lk k x = 0) : k.length ≤ 32 ∧ (0 < x.length ∧ x.length ≤ 256) ∧ ∀ k0, lk = some k0 → Ni.lessP k0 k = true := by
  unfold addE at h
  by_cases h1 : k.length ≤ 32
  · rw [if_pos h1] at h
    by_cases h2 : 0 < x.length ∧ x.length ≤ 256
    · rw [if_pos h2] at h
      refine ⟨h1, h2, fun k0 e => ?_⟩
      subst e
      simp only at h
      cases hq : Ni.lessP k0 k with
      | true => rfl
      | false => rw [hq] at h; simp at h
    · rw [if_neg h2] at h; cases h
  · rw [if_neg h1] at h; cases h
theorem Lst.step {lk : Option (List Int)} {l : PList} {k x : List Int} (h : Lst lk l) (hz : addE lk k x = 0) : putL l k x = l ++ [(k, x)] ∧ Lst (some k) (putL l k x) := by
  obtain ⟨h1, h2, h3⟩ := addE0 hz
  have hall : ∀ e ∈ l, Ni.lessP e.1 k = true := by
    intro e he
    cases lk with
    | none => rw [show l = [] from h] at he; simp at he
    | some k0 =>
      rcases h e he with q | q
      · rw [q]; exact h3 k0 rfl
      · exact less_trans _ _ _ q (h3 k0 rfl)
  have hp : putL l k x = l ++ [(k, x)] := by unfold putL; rw [if_pos ⟨h1, h2⟩, putR_end hall]
  refine ⟨hp, ?_⟩
  rw [hp]
  intro e he
  rcases List.mem_append.1 he with q | q
  · exact .inr (hall e q)
  · rw [List.mem_singleton.1 q]; exact .inl rfl
theorem TA.keep {K L : Nat → Prop} {w w' : World} (hk : Keep K L w w') : ∀ {t : Tr} {v : Value}, TA K w t v → TA L w' t v := by
  intro t
  induction t with
  | no => intro v h; exact h
  | leaf p x => rintro v ⟨a, n, c, a', n', c', h1, h2, h3, h4⟩; exact ⟨a, n, c, a', n', c', h1, h2.keep hk, h3.keep hk, h4⟩
  | ext p t ih => rintro v ⟨a, n, c, u, h1, h2, h3⟩; exact ⟨a, n, c, u, h1, h2.keep hk, ih h3⟩
  | br k x ih => rintro v ⟨vs, a, n, c, h1, h2, h3, h4⟩; exact ⟨vs, a, n, c, h1, fun i hi => ih i (h2 i hi), h3.keep hk, h4⟩
theorem Tri.af {gB gT : Nat} {w w' : World} {v v' : Value} {t : Tr} (h : Tri (fun b => KF v b ∧ b ≠ gB) w gT t) (ha : Af gB w w' v v') (hg : gT ≠ gB) (hk : KF v gT) : Tri (fun b => KF v' b ∧ b ≠ gB) w' gT t := by
  obtain ⟨⟨u, h1, h2⟩, h3⟩ := h
  exact ⟨⟨u, (ha.block gT (lt_of_get h1) hg hk).trans h1, h2.keep (fun b hb hl => by
    have q := ha.keep (Y := fun _ => True) b ⟨hb.1, hb.2, trivial⟩ hl
    exact ⟨q.1, q.2.1, q.2.2.1⟩)⟩, h3⟩
theorem Bu.tou {gT : Nat} {w w' : World} {base gB m : Nat} {t : Tr} {lk : Option (List Int)} {vW : Value} (h : Bu (fun b => b ≠ gT) w base gB m t lk vW) (ht : Touch gT w w') (h1 : gB ≠ gT) (h2 : gT < base) : Bu (fun b => b ≠ gT) w' base gB m t lk vW := by
  obtain ⟨pV, rs, fs, hC, hP⟩ := h
  refine ⟨pV, rs, fs, ⟨(ht.block gB (lt_of_get hC.row) h1).trans hC.row, ?_, hC.kg, hC.sm⟩, ?_⟩
  · rcases hC.wv with q | ⟨g, cap, e, hg, hw⟩
    · exact .inl q
    · obtain ⟨cur, r1, r2⟩ := hw.row
      have eg := ht.block g (lt_of_get r1) (by omega)
      exact .inr ⟨g, cap, e, hg, ⟨⟨cur, eg.trans r1, r2⟩, hw.nc, hw.cm, hw.y.same eg, hw.at'.keep (fun b hb hl => ⟨ht.block b hl hb.2.2, hb⟩)⟩⟩
  · rcases hP with q | ⟨a, n, c, k, v, r, e1, e2, e3⟩
    · exact .inl q
    · exact .inr ⟨a, n, c, k, v, r, e1, e2.keep (fun b hb hl => ⟨ht.block b hl hb.2.2, hb⟩), e3⟩
theorem Bu.anew {Y Y' : Nat → Prop} {w : World} {base gB : Nat} {t : Tr} {lk : Option (List Int)} {vW : Value} (h : Bu Y w base gB 0 t lk vW) (b' : Nat) : Bu Y' w b' gB 0 no none (.slice none 0 0) := by
  obtain ⟨pV, rs, fs, h1, h2⟩ := h
  rcases h2 with ⟨_, rfl, rfl, rfl, rfl, rfl, rfl⟩ | ⟨_, _, _, _, _, _, _, _, _, _, _, _, _, hm⟩
  · exact ⟨_, [], [], ⟨h1.row, .inl ⟨rfl, rfl, rfl⟩, h1.kg, h1.sm⟩, .inl ⟨rfl, rfl, rfl, rfl, rfl, rfl, rfl⟩⟩
  · omega
set_option maxHeartbeats 8000000 in
theorem bulktrie_any {K : Nat → Prop} (a : Option Addr) (n c : Nat) (vs : List (Value × Value)) (l : PList) (w : World) (hl : PAt K w a n c vs l) (hn : n ≤ 2932031007317) :
    Calls Tryz.prog 5 #[.slice a n c] w fun e w' => e = .returned (.bool true) ∧ Bl w w' := by
  have hB := Bl.refl w
  have hlo := hl.old
  have hll := hl.ll
  refine cw_enter Tryz.func5 rfl 54 rfl ?_
  show CW _ _ _ _ _ _ _ [(0, .slice a n c)] _
  refine cw_seq ?_
  refine cw_region ?_
  refine rp 2 (.bool false) ?_
  refine rw_nil ?_
  refine nw_then ?_
  refine cw_seq ?_
  refine cw_region ?_
  refine rw_call 7 11 #[] (fun _ => by kernel_rfl) (fun _ => by kernel_rfl) (R := fun u w' => (∃ gB, u = .pointer (some ⟨gB, 0, none⟩) ∧ Bu (fun _ => True) w' 0 gB 0 no none (.slice none 0 0) ∧ w.heap.size ≤ gB) ∧ Bl w w') (bnew_any (Y := fun _ => True) 0) ?_
  rintro _ u1 ⟨⟨gB, rfl, hU, hgB⟩, hb1⟩
  replace hB := hB.go hb1
  have hgl := hU.lo.2
  refine rp 3 (.pointer (some ⟨gB, 0, none⟩)) ?_
  refine rw_nil ?_
  refine nw_then ?_
  refine cw_seq ?_
  refine cw_region ?_
  refine rw_call 8 17 #[] (fun _ => by kernel_rfl) (fun _ => by kernel_rfl) (R := fun u w' => (∃ g, u = .pointer (some ⟨g, 0, none⟩) ∧ u1.heap.size ≤ g ∧ Tri (fun b => KF (.slice none 0 0) b ∧ b ≠ gB) w' g no) ∧ Bl u1 w') (new_any) ?_
  rintro _ u2 ⟨⟨gT, rfl, hgT, hT⟩, hb2⟩
  replace hB := hB.go hb2
  replace hU := hU.go hb2
  refine rp 4 (.pointer (some ⟨gT, 0, none⟩)) ?_
  refine rw_nil ?_
  refine nw_then ?_
  refine cw_seq ?_
  refine cw_seq ?_
  refine cw_region ?_
  refine rp 9 (.pointer (some ⟨gB, 0, none⟩)) ?_
  refine rp 10 (.bool false) ?_
  refine rp 11 (.bool false) ?_
  refine rp 12 (.pointer (some ⟨gT, 0, none⟩)) ?_
  refine rp 13 (.bool false) ?_
  refine rp 14 (.bool false) ?_
  refine rp 15 (.bool false) ?_
  refine rw_call 16 10 #[] (fun _ => by kernel_rfl) (fun _ => by kernel_rfl) (R := fun u w' => u = .bool true ∧ Bl u2 w') (alive_any) ?_
  rintro _ u3 ⟨rfl, hb3⟩
  replace hB := hB.go hb3
  replace hU := hU.go hb3
  replace hT := hT.go hb3
  refine rp 17 (.bool false) ?_
  refine rp 18 (.bool false) ?_
  refine rw_nil ?_
  refine nw_then ?_
  refine cw_cond_f (fun _ => by kernel_rfl) ?_
  refine cw_skip ?_
  refine nw_then ?_
  refine cw_seq ?_
  refine cw_seq ?_
  refine cw_region ?_
  refine rp 19 (.slice a n c) ?_
  refine rp 20 (.int .i64 n) ?_
  refine rp 21 (.int .i64 0) ?_
  refine rw_nil ?_
  refine nw_then ?_
  refine cw_block ?_
  obtain ⟨bs, hbs⟩ : ∃ b, u3.heap.size = b := ⟨_, rfl⟩
  have hU0 : Bu (fun b => b ≠ gT) u3 bs gB 0 no none (.slice none 0 0) := hU.anew bs
  have hgTl := hT.lt
  have hz3 := hB.size
  refine cw_loop (X := Nat × Nat × Tr × PList × Option (List Int) × Value) (fun q => [(21, .int .i64 ((q.1 : Nat) : Int)), (19, .slice a n c), (20, .int .i64 n), (3, .pointer (some ⟨gB, 0, none⟩)), (4, .pointer (some ⟨gT, 0, none⟩))]) (fun q v => Bl w v ∧ Bu (fun b => b ≠ gT) v bs gB q.2.1 q.2.2.1 q.2.2.2.2.1 q.2.2.2.2.2 ∧ Tri (fun b => KF q.2.2.2.2.2 b ∧ b ≠ gB) v gT q.2.2.1 ∧ Rel q.2.2.1 q.2.2.2.1 ∧ q.2.2.2.1.length = q.2.1 ∧ Lst q.2.2.2.2.1 q.2.2.2.1 ∧ q.1 ≤ n ∧ q.2.1 ≤ q.1 ∧ Tr.sz q.2.2.1 ≤ 3 * q.1 ∧ bs ≤ v.heap.size) (fun q => n - q.1) (0, 0, no, [], none, .slice none 0 0) (by exact ⟨fun _ => by kernel_rfl, ⟨fun _ => by kernel_rfl, ⟨fun _ => by kernel_rfl, ⟨fun _ => by kernel_rfl, ⟨fun _ => by kernel_rfl, trivial⟩⟩⟩⟩⟩) ⟨hB, hU0, hT, Rel.nil, rfl, rfl, Nat.zero_le _, Nat.le_refl _, by simp [Tr.sz], by show bs ≤ u3.heap.size; omega⟩ ?_
  clear hB hU hU0 hT
  rintro ⟨j, m, t, lt, lk, vW⟩ v ⟨hB, hU, hT, hRel, hlm, hLs, hj, hm, hz, hbv⟩
  simp only at hB hU hT hRel hlm hLs hj hm hz hbv
  show CW _ _ _ _ _ _ _ [(21, .int .i64 ((j : Nat) : Int)), (19, .slice a n c), (20, .int .i64 n), (3, .pointer (some ⟨gB, 0, none⟩)), (4, .pointer (some ⟨gT, 0, none⟩))] _
  by_cases hlt : j < n
  · skip
    obtain ⟨gE, oE, a1, n1, c1, a2, n2, c2, k, x, ea, hej, hc1, hc2, hs1, hs2⟩ := (hlo.go hB).at hlt
    subst ea
    refine cw_seq ?_
    refine cw_region ?_
    refine rv 22 (.bool true) (fun _ => ol_conv (v := .bool (decide (((j : Nat) : Int) < (n : Int)))) (by kernel_rfl) (congrArg Value.bool (decide_eq_true (by omega)))) ?_
    refine rw_nil ?_
    refine nw_then ?_
    refine cw_seq ?_
    refine cw_cond_t (fun _ => by kernel_rfl) ?_
    refine cw_skip ?_
    refine nw_then ?_
    refine cw_seq ?_
    refine cw_block ?_
    refine cw_seq ?_
    have hUl0 := hU.lo
    refine cw_region ?_
    refine rv 23 (.pointer (some ⟨gE, oE + j * 2, none⟩)) (fun _ => ol_index 22 _ _ gE oE j n c 2 34 rfl (by kernel_rfl) (by kernel_rfl) hlt Tryz.underlying22 (by kernel_rfl)) ?_
    refine rv 24 (.agg #[.slice a1 n1 c1, .slice a2 n2 c2]) (fun _ => ol_mid 34 _ gE (oE + j * 2) [.slice a1 n1 c1, .slice a2 n2 c2] _ rfl (by kernel_rfl) (rng2 hc1 hc2) Tryz.underlying34 rfl (by kernel_rfl)) ?_
    refine rw_new 6 #[.slice none 0 0, .slice none 0 0] 34 (fun _ => by kernel_rfl) (fun _ => by kernel_rfl) ?_
    intro wA gA hnA
    refine rw_put gA #[.slice a1 n1 c1, .slice a2 n2 c2] (fun _ => by kernel_rfl) (fun _ => ol_store 34 _ _ _ _ _ _ rfl (by kernel_rfl) (by kernel_rfl) hnA.row (by kernel_rfl) rfl (by kernel_rfl)) ?_
    intro wC hpC
    have hnC := hnA.put hpC
    have hgA := hnC.hg
    replace hB := hB.go hnC.below
    replace hU := hU.go hnC.below
    replace hT := hT.go hnC.below
    replace hs1 := hs1.go hnC.below
    replace hs2 := hs2.go hnC.below
    have hrA : Rw gA wC #[.slice a1 n1 c1, .slice a2 n2 c2] 34 := hnC.row
    refine rw_nil ?_
    refine nw_then ?_
    refine cw_seq ?_
    refine cw_region ?_
    refine rp 25 (.pointer (some ⟨gB, 0, none⟩)) ?_
    refine rp 26 (.pointer (some ⟨gA, 0, none⟩)) ?_
    refine rv 27 (.slice a1 n1 c1) (fun _ => ol_cell 32 _ ⟨gA, 0, none⟩ _ _ rfl (by kernel_rfl) (by rw [cell_of_row _ _ _ _ _ _ hrA]; rfl) Tryz.underlying32 rfl) ?_
    refine rp 28 (.pointer (some ⟨gA, 1, none⟩)) ?_
    refine rv 29 (.slice a2 n2 c2) (fun _ => ol_cell 32 _ ⟨gA, 1, none⟩ _ _ rfl (by kernel_rfl) (by rw [cell_of_row _ _ _ _ _ _ hrA]; rfl) Tryz.underlying32 rfl) ?_
    have hUl := hU.lo
    have hkB : isB k := hs1.ag.b
    have hTl := hT.lt
    refine rw_call 30 12 #[.pointer (some ⟨gB, 0, none⟩), .slice a1 n1 c1, .slice a2 n2 c2] (fun _ => by kernel_rfl) (fun _ => by kernel_rfl) (R := RAd (fun b => b ≠ gT) (wC) bs gB m t lk vW k x) (badd_any hU (fun b hb => by omega) (by have := hnC.below.size; omega) (by omega) (hs1.mono (fun b hb => ⟨by have := hb.2; omega, by have := hb.2; omega⟩)) (hs2.mono (fun b hb => ⟨by have := hb.2; omega, by have := hb.2; omega⟩))) ?_
    rintro _ u4 ⟨rfl, vW2, hU2, hA2⟩
    have hz4 := hA2.size
    have hbv2 : bs ≤ u4.heap.size := by have := hnC.below.size; omega
    replace hT := hT.af hA2 (by omega) (fun e => by have := (hUl.1 gT e).1; omega)
    have hrA4 := (hA2.block gA (lt_of_get hrA) (by omega) (fun e => by have := hnC.hg; have := (hUl0.1 gA e).2; omega)).trans hrA
    replace hs1 := hs1.keep (L := fun b => b < w.heap.size) (fun b hb hl => ⟨hA2.block b hl (by have := hb.2; omega) (fun e => by have := (hUl.1 b e).1; have := hb.2; omega), hb.2⟩)
    replace hs2 := hs2.keep (L := fun b => b < w.heap.size) (fun b hb hl => ⟨hA2.block b hl (by have := hb.2; omega) (fun e => by have := (hUl.1 b e).1; have := hb.2; omega), hb.2⟩)
    replace hB : Bl w u4 := hA2.blw hB (by omega) (fun k hk => by have := (hUl.1 k hk).1; omega)
    clear hU hrA
    have hrA : Rw gA u4 #[.slice a1 n1 c1, .slice a2 n2 c2] 34 := hrA4
    refine rp 31 (.bool ((addE lk k x : Int) == (0 : Int))) ?_
    refine rp 32 (.bool ((addE lk k x : Int) == (0 : Int))) ?_
    by_cases he : addE lk k x = 0
    · skip
      rw [show ((addE lk k x : Int) == (0 : Int)) = true from by simp [he]]
      have hU := hU2
      rw [if_pos he, if_pos he, if_pos he] at hU
      refine rp 33 (.pointer (some ⟨gT, 0, none⟩)) ?_
      refine rp 34 (.pointer (some ⟨gA, 0, none⟩)) ?_
      refine rv 35 (.slice a1 n1 c1) (fun _ => ol_cell 32 _ ⟨gA, 0, none⟩ _ _ rfl (by kernel_rfl) (by rw [cell_of_row _ _ _ _ _ _ hrA]; rfl) Tryz.underlying32 rfl) ?_
      refine rp 36 (.pointer (some ⟨gA, 1, none⟩)) ?_
      refine rv 37 (.slice a2 n2 c2) (fun _ => ol_cell 32 _ ⟨gA, 1, none⟩ _ _ rfl (by kernel_rfl) (by rw [cell_of_row _ _ _ _ _ _ hrA]; rfl) Tryz.underlying32 rfl) ?_
      obtain ⟨q1, q2, q3⟩ := addE0 he
      have hpe : putE k x = 0 := by unfold putE; rw [if_pos q1, if_pos q2]
      have hUl2 := hU.lo
      refine rw_call 38 18 #[.pointer (some ⟨gT, 0, none⟩), .slice a1 n1 c1, .slice a2 n2 c2] (fun _ => by kernel_rfl) (fun _ => by kernel_rfl) (R := fun u w' => u = .int .i64 0 ∧ Tri (fun b => KF vW2 b ∧ b ≠ gB) w' gT (putT t k x) ∧ Touch gT (u4) w') (((tput_any hT hs1 hs2 (fun b hb => ⟨fun e => by have := (hUl2.1 b e).2; omega, by omega⟩)).mono (fun e w' ⟨u, e1, e2, e3, e4⟩ => ⟨u, e1, by rw [e2, hpe], e3, e4⟩))) ?_
      rintro _ u5 ⟨rfl, hTn, hto⟩
      replace hU := hU.tou hto (by omega) (by omega)
      replace hB : Bl w u5 := hto.below hB (by omega) hB.size
      replace hT := hTn
      replace hbv2 : bs ≤ u5.heap.size := by have := hto.size; omega
      refine rp 39 (.bool false) ?_
      refine rp 40 (.bool false) ?_
      refine rw_nil ?_
      refine nw_then ?_
      refine cw_cond_f (fun _ => by kernel_rfl) ?_
      refine cw_skip ?_
      refine nw_block ?_
      refine nw_then ?_
      refine cw_region ?_
      refine rv 41 (.int .i64 (((j : Nat) : Int) + 1)) (fun _ => ol_conv (v := .int .i64 (IntKind.i64.wrap (((j : Nat) : Int) + 1))) (by kernel_rfl) (congrArg (Value.int .i64) (wrap64 (by omega) (by omega)))) ?_
      refine rp 21 (.int .i64 (((j : Nat) : Int) + 1)) ?_
      refine rw_nil ?_
      exact nw_round (E := fun q => [(21, .int .i64 ((q.1 : Nat) : Int)), (19, .slice (some ⟨gE, oE, none⟩) n c), (20, .int .i64 n), (3, .pointer (some ⟨gB, 0, none⟩)), (4, .pointer (some ⟨gT, 0, none⟩))]) (R := fun q v => Bl w v ∧ Bu (fun b => b ≠ gT) v bs gB q.2.1 q.2.2.1 q.2.2.2.2.1 q.2.2.2.2.2 ∧ Tri (fun b => KF q.2.2.2.2.2 b ∧ b ≠ gB) v gT q.2.2.1 ∧ Rel q.2.2.1 q.2.2.2.1 ∧ q.2.2.2.1.length = q.2.1 ∧ Lst q.2.2.2.2.1 q.2.2.2.1 ∧ q.1 ≤ n ∧ q.2.1 ≤ q.1 ∧ Tr.sz q.2.2.1 ≤ 3 * q.1 ∧ bs ≤ v.heap.size) (μ := fun q => n - q.1) (x := (j, m, t, lt, lk, vW)) (j + 1, m + 1, putT t k x, putL lt k x, some k, vW2) (by exact ⟨fun _ => by kernel_rfl, ⟨fun _ => by kernel_rfl, ⟨fun _ => by kernel_rfl, ⟨fun _ => by kernel_rfl, ⟨fun _ => by kernel_rfl, trivial⟩⟩⟩⟩⟩) ⟨hB, hU, hT, hRel.put hkB, by show (putL lt k x).length = m + 1; rw [(hLs.step he).1, List.length_append, hlm]; rfl, (hLs.step he).2, by simp only; omega, by simp only; omega, by show Tr.sz (putT t k x) ≤ 3 * (j + 1); have := sz_putT t k x; omega, hbv2⟩ (by show n - (j + 1) < n - j; omega)
    · skip
      rw [show ((addE lk k x : Int) == (0 : Int)) = false from by simp [he]]
      have hU := hU2
      rw [if_neg he, if_neg he, if_neg he] at hU
      refine rw_off 33 (fun _ => by kernel_rfl) ?_
      refine rw_off 34 (fun _ => by kernel_rfl) ?_
      refine rw_off 35 (fun _ => by kernel_rfl) ?_
      refine rw_off 36 (fun _ => by kernel_rfl) ?_
      refine rw_off 37 (fun _ => by kernel_rfl) ?_
      refine rw_off 38 (fun _ => by kernel_rfl) ?_
      refine rw_off 39 (fun _ => by kernel_rfl) ?_
      refine rp 40 (.bool false) ?_
      refine rw_nil ?_
      refine nw_then ?_
      refine cw_cond_f (fun _ => by kernel_rfl) ?_
      refine cw_skip ?_
      refine nw_block ?_
      refine nw_then ?_
      refine cw_region ?_
      refine rv 41 (.int .i64 (((j : Nat) : Int) + 1)) (fun _ => ol_conv (v := .int .i64 (IntKind.i64.wrap (((j : Nat) : Int) + 1))) (by kernel_rfl) (congrArg (Value.int .i64) (wrap64 (by omega) (by omega)))) ?_
      refine rp 21 (.int .i64 (((j : Nat) : Int) + 1)) ?_
      refine rw_nil ?_
      exact nw_round (E := fun q => [(21, .int .i64 ((q.1 : Nat) : Int)), (19, .slice (some ⟨gE, oE, none⟩) n c), (20, .int .i64 n), (3, .pointer (some ⟨gB, 0, none⟩)), (4, .pointer (some ⟨gT, 0, none⟩))]) (R := fun q v => Bl w v ∧ Bu (fun b => b ≠ gT) v bs gB q.2.1 q.2.2.1 q.2.2.2.2.1 q.2.2.2.2.2 ∧ Tri (fun b => KF q.2.2.2.2.2 b ∧ b ≠ gB) v gT q.2.2.1 ∧ Rel q.2.2.1 q.2.2.2.1 ∧ q.2.2.2.1.length = q.2.1 ∧ Lst q.2.2.2.2.1 q.2.2.2.1 ∧ q.1 ≤ n ∧ q.2.1 ≤ q.1 ∧ Tr.sz q.2.2.1 ≤ 3 * q.1 ∧ bs ≤ v.heap.size) (μ := fun q => n - q.1) (x := (j, m, t, lt, lk, vW)) (j + 1, m, t, lt, lk, vW2) (by exact ⟨fun _ => by kernel_rfl, ⟨fun _ => by kernel_rfl, ⟨fun _ => by kernel_rfl, ⟨fun _ => by kernel_rfl, ⟨fun _ => by kernel_rfl, trivial⟩⟩⟩⟩⟩) ⟨hB, hU, hT, hRel, hlm, hLs, by simp only; omega, by simp only; omega, by show Tr.sz t ≤ 3 * (j + 1); omega, hbv2⟩ (by show n - (j + 1) < n - j; omega)
  obtain rfl : j = n := by omega
  show CW _ _ _ _ _ _ _ [(21, .int .i64 ((j : Nat) : Int)), (19, .slice a j c), (20, .int .i64 ((j : Nat) : Int)), (3, .pointer (some ⟨gB, 0, none⟩)), (4, .pointer (some ⟨gT, 0, none⟩))] _
  have hM : (nmd t).length + 1 ≤ 8800000000000 := by have := nmd_le t; omega
  have hdl := rootP_len8 t
  obtain ⟨ds, hds⟩ : ∃ ds, rootP t = ds := ⟨_, rfl⟩
  rw [hds] at hdl
  refine cw_seq ?_
  refine cw_region ?_
  refine rv 22 (.bool false) (fun _ => ol_conv (v := .bool (decide (((j : Nat) : Int) < ((j : Nat) : Int)))) (by kernel_rfl) (congrArg Value.bool (decide_eq_false (by omega)))) ?_
  refine rw_nil ?_
  refine nw_then ?_
  refine cw_seq ?_
  refine cw_cond_f (fun _ => by kernel_rfl) ?_
  refine cw_exit ?_
  refine nw_exit_then ?_
  refine nw_exit_then ?_
  refine nw_exit_here ?_
  refine nw_then ?_
  refine cw_seq ?_
  refine cw_region ?_
  refine rp 42 (.pointer (some ⟨gB, 0, none⟩)) ?_
  refine rw_call 43 15 #[.pointer (some ⟨gB, 0, none⟩)] (fun _ => by kernel_rfl) (fun _ => by kernel_rfl) (R := fun u w' => u = .agg (B8 ds) ∧ Bl (v) w') (((broot_any hU).mono (fun e w' ⟨u, e1, e2, e3⟩ => ⟨u, e1, by rw [e2, hds], e3⟩))) ?_
  rintro _ u1 ⟨rfl, hb2⟩
  replace hB := hB.go hb2
  replace hU := hU.go hb2
  replace hT := hT.go hb2
  refine rp 44 (.pointer (some ⟨gT, 0, none⟩)) ?_
  refine rw_call 45 19 #[.pointer (some ⟨gT, 0, none⟩)] (fun _ => by kernel_rfl) (fun _ => by kernel_rfl) (R := fun u w' => u = .agg (B8 ds) ∧ Bl (u1) w') (((root_any hT hM).mono (fun e w' ⟨u, e1, e2, e3⟩ => ⟨u, e1, by rw [e2, hds], e3⟩))) ?_
  rintro _ u3 ⟨rfl, hb4⟩
  replace hB := hB.go hb4
  replace hU := hU.go hb4
  replace hT := hT.go hb4
  refine rv 46 (.bool true) (fun _ => ol_eqD rfl (by kernel_rfl) (by kernel_rfl) hdl) ?_
  refine rp 47 (.bool true) ?_
  refine rp 48 (.pointer (some ⟨gB, 0, none⟩)) ?_
  refine rw_call 49 14 #[.pointer (some ⟨gB, 0, none⟩)] (fun _ => by kernel_rfl) (fun _ => by kernel_rfl) (R := fun u w' => u = .int .i64 ((m : Nat) : Int) ∧ Bl (u3) w') ((blen_any hU)) ?_
  rintro _ u5 ⟨rfl, hb6⟩
  replace hB := hB.go hb6
  replace hU := hU.go hb6
  replace hT := hT.go hb6
  refine rp 50 (.pointer (some ⟨gT, 0, none⟩)) ?_
  refine rw_call 51 20 #[.pointer (some ⟨gT, 0, none⟩)] (fun _ => by kernel_rfl) (fun _ => by kernel_rfl) (R := fun u w' => u = .int .i64 ((m : Nat) : Int) ∧ Bl (u5) w') (((len_any hT (by rw [hRel.ents]; omega)).mono (fun e w' ⟨u, e1, e2, e3⟩ => ⟨u, e1, by rw [e2, hRel.ents, hlm], e3⟩))) ?_
  rintro _ u7 ⟨rfl, hb8⟩
  replace hB := hB.go hb8
  replace hU := hU.go hb8
  replace hT := hT.go hb8
  refine rv 52 (.bool true) (fun _ => ol_conv (v := .bool (((m : Nat) : Int) == ((m : Nat) : Int))) (by kernel_rfl) (congrArg Value.bool (beq_self_eq_true _))) ?_
  refine rp 53 (.bool true) ?_
  refine rp 2 (.bool true) ?_
  refine rw_nil ?_
  refine nw_then ?_
  refine cw_ret ?_
  exact nw_ret_body (.bool true) (fun _ => by kernel_rfl) ⟨rfl, hB⟩
end Go.Proofs.YtdkpilgelgjieaaGreat

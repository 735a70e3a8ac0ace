/- Lists of keys and values in memory. -/
import Derived.Test.YtdkpilgelgjieaaG31
import Derived.Test.YtdkpilgelgjieaaG19
import Derived.Maps.AppendAt
import Derived.Laws.AppendOwnNone
import Derived.Test.YtdkpilgelgjieaaG29
import Derived.Test.YtdkpilgelgjieaaG01
namespace Go.Proofs.Ytdkpilgelgjieaa
open Go.RowKit
open Tr
set_option linter.unusedVariables false
set_option maxRecDepth 100000
def flatP (vs : List (Value × Value)) : List Value := vs.flatMap fun p => [p.1, p.2]
theorem flatP_len : ∀ vs : List (Value × Value), (flatP vs).length = vs.length * 2
  | [] => rfl
  | p :: r => by have := flatP_len r; simp only [flatP, List.flatMap_cons, List.length_append, List.length_cons, List.length_nil] at this ⊢; omega
theorem flatP_app (a b : List (Value × Value)) : flatP (a ++ b) = flatP a ++ flatP b := by simp [flatP]
theorem flatP_drop : ∀ (vs : List (Value × Value)) (m : Nat), flatP (vs.drop m) = (flatP vs).drop (m * 2)
  | [], m => by simp [flatP]
  | p :: r, 0 => by simp
  | p :: r, m + 1 => by
    rw [List.drop_succ_cons, flatP_drop r m, show (m + 1) * 2 = m * 2 + 1 + 1 from by omega]
    simp [flatP]
theorem flatP_get : ∀ (vs : List (Value × Value)) (j : Nat) (p : Value × Value), vs[j]? = some p → (flatP vs)[j * 2]? = some p.1 ∧ (flatP vs)[j * 2 + 1]? = some p.2
  | [], j, p, h => by simp at h
  | q :: r, 0, p, h => by simp at h; subst h; simp [flatP]
  | q :: r, j + 1, p, h => by
    have := flatP_get r j p (by simpa using h)
    rw [show (j + 1) * 2 = j * 2 + 1 + 1 from by omega]
    simpa [flatP] using this
/-- A pair of slices of bytes. -/
def Gp2 (K : Nat → Prop) (w : World) (p : Value × Value) (e : List Int × List Int) : Prop := ∃ a n c a' n' c', p.1 = .slice a n c ∧ p.2 = .slice a' n' c' ∧ Sk K w a n c e.1 ∧ Sk K w a' n' c' e.2
theorem Gp2.mono {K K' : Nat → Prop} {w : World} {p : Value × Value} {e : List Int × List Int} (h : Gp2 K w p e) (hK : ∀ b, K b → K' b) : Gp2 K' w p e := by
  obtain ⟨a, n, c, a', n', c', h1, h2, h3, h4⟩ := h
  exact ⟨a, n, c, a', n', c', h1, h2, h3.mono hK, h4.mono hK⟩
theorem Gp2.go {K : Nat → Prop} {w w' : World} {p : Value × Value} {e : List Int × List Int} (h : Gp2 K w p e) (hb : Below w.heap.size w w') : Gp2 K w' p e := by
  obtain ⟨a, n, c, a', n', c', h1, h2, h3, h4⟩ := h
  exact ⟨a, n, c, a', n', c', h1, h2, h3.go hb, h4.go hb⟩
/-- A slice of pairs in memory. -/
structure PAt (K : Nat → Prop) (w : World) (a : Option Addr) (n c : Nat) (vs : List (Value × Value)) (l : PList) : Prop where
  vl : vs.length = n
  ll : l.length = n
  nc : n ≤ c
  nil : a = none → n = 0 ∧ c = 0
  row : ∀ j u, (flatP vs)[j]? = some u → ∃ g off, a = some ⟨g, off, none⟩ ∧ w.cell? ⟨g, off + j, none⟩ = some u
  gd : ∀ (j : Nat) (p : Value × Value) (e : List Int × List Int), vs[j]? = some p → l[j]? = some e → Gp2 K w p e
  rk : ∀ x, a = some x → 0 < n → K x.block
section
variable {K : Nat → Prop} {w w' : World} {a : Option Addr} {n c : Nat} {vs : List (Value × Value)} {l : PList}
theorem PAt.go (h : PAt K w a n c vs l) (hb : Below w.heap.size w w') : PAt K w' a n c vs l := ⟨h.vl, h.ll, h.nc, h.nil, fun j u hj => by
  obtain ⟨g, off, h1, h2⟩ := h.row j u hj
  exact ⟨g, off, h1, (hb.cell (p := ⟨g, off + j, none⟩) (block_lt_of_cell h2)).trans h2⟩, fun j p e h1 h2 => (h.gd j p e h1 h2).go hb, h.rk⟩
theorem PAt.old (h : PAt K w a n c vs l) : PAt (fun b => K b ∧ b < w.heap.size) w a n c vs l := ⟨h.vl, h.ll, h.nc, h.nil, h.row, fun j p e h1 h2 => by
  obtain ⟨a, n, c, a', n', c', q1, q2, q3, q4⟩ := h.gd j p e h1 h2
  exact ⟨a, n, c, a', n', c', q1, q2, ⟨q3.ag, fun x hx hn => ⟨q3.k x hx hn, q3.old hx hn⟩⟩, ⟨q4.ag, fun x hx hn => ⟨q4.k x hx hn, q4.old hx hn⟩⟩⟩, fun x hx hn => by
  refine ⟨h.rk x hx hn, ?_⟩
  obtain ⟨u, hu⟩ : ∃ u, (flatP vs)[0]? = some u := ⟨_, List.getElem?_eq_getElem (by rw [flatP_len, h.vl]; omega)⟩
  obtain ⟨g, off, e1, e2⟩ := h.row 0 u hu
  rw [hx] at e1; cases e1
  exact block_lt_of_cell e2⟩
theorem PAt.at (h : PAt K w a n c vs l) {j : Nat} (hj : j < n) : ∃ g off a1 n1 c1 a2 n2 c2 k x, a = some ⟨g, off, none⟩ ∧ l[j]? = some (k, x) ∧ w.cell? ⟨g, off + j * 2, none⟩ = some (.slice a1 n1 c1) ∧ w.cell? ⟨g, off + j * 2 + 1, none⟩ = some (.slice a2 n2 c2) ∧ Sk K w a1 n1 c1 k ∧ Sk K w a2 n2 c2 x := by
  obtain ⟨p, hp⟩ : ∃ p, vs[j]? = some p := ⟨_, List.getElem?_eq_getElem (by rw [h.vl]; exact hj)⟩
  obtain ⟨e, he⟩ : ∃ e, l[j]? = some e := ⟨_, List.getElem?_eq_getElem (by rw [h.ll]; exact hj)⟩
  obtain ⟨a1, n1, c1, a2, n2, c2, h1, h2, h3, h4⟩ := h.gd j p e hp he
  obtain ⟨f1, f2⟩ := flatP_get vs j p hp
  obtain ⟨g, off, e1, e2⟩ := h.row _ _ f1
  obtain ⟨g', off', e1', e2'⟩ := h.row _ _ f2
  rw [e1] at e1'
  cases e1'
  exact ⟨g, off, a1, n1, c1, a2, n2, c2, e.1, e.2, e1, he, by rw [e2, h1], by rw [Nat.add_assoc, e2', h2], h3, h4⟩
end
/-- A list in a row of one's own. -/
def OwnL (X : Nat → Prop) (w : World) (base : Nat) (v : Value) (l : PList) : Prop := (∀ b, base ≤ b → X b) ∧ ∃ vs : List (Value × Value), vs.length = l.length ∧ w.ownsRow base 31 2 v l.length (flatP vs) ∧ ∀ (j : Nat) (p : Value × Value) (e : List Int × List Int), vs[j]? = some p → l[j]? = some e → Gp2 (fun b => v.ownBlock ≠ some b ∧ X b) w p e
theorem infoPR : ∃ i, Try.prog.info? 31 = some i ∧ i.zero = some (.agg #[.slice none 0 0, .slice none 0 0]) ∧ i.size = 2 ∧ i.bytes = 48 := by
  have h : (Try.prog.info? 31).map (fun i => (i.zero, i.size, i.bytes)) = some (some (.agg #[.slice none 0 0, .slice none 0 0]), 2, 48) := by kernel_rfl
  cases hq : Try.prog.info? 31 with
  | none => rw [hq] at h; simp at h
  | some i => rw [hq] at h; simp at h; exact ⟨i, rfl, h.1, h.2.1, h.2.2⟩
theorem OwnL.own {X : Nat → Prop} {w : World} {base : Nat} {v : Value} {l : PList} (h : OwnL X w base v l) : ∀ k, v.ownBlock = some k → base ≤ k ∧ k < w.heap.size := by
  obtain ⟨hX, vs, h1, ⟨h2, h3⟩, h4⟩ := h
  intro k hk
  rcases h3 with ⟨rfl, _⟩ | ⟨g, cap, cur, rfl, hbg, hg, _⟩
  · cases hk
  · have e : g = k := by simpa [Value.ownBlock] using hk
    subst e
    exact ⟨hbg, lt_of_get hg⟩
/-- An append of such a slice onto a row of one's own. -/
theorem appQ {X : Nat → Prop} {w : World} {base : Nat} {v : Value} {l : PList} (hown : OwnL X w base v l) {K : Nat → Prop} {a : Option Addr} {m c : Nat} {vs' : List (Value × Value)} {l' : PList} (h : PAt K w a m c vs' l') (hK : ∀ b, K b → v.ownBlock ≠ some b ∧ X b) (hlen : l.length + m ≤ 2932031007400) (hbase : base ≤ w.heap.size) :
    ∃ v' w', (∀ ty, (Builtin.append_ #[22, 22] ty #[v, .slice a m c]).run Try.prog w = .ok v' w') ∧ OwnL X w' base v' (l ++ l') ∧ Below base w w' ∧ (∀ k, k < w.heap.size → v.ownBlock ≠ some k → w'.heap[k]? = w.heap[k]?) ∧ (v'.ownBlock = v.ownBlock ∨ v'.ownBlock = some w.heap.size) := by
  obtain ⟨i, hi, hz, hsz, hby⟩ := infoPR
  have hOw := hown.own
  obtain ⟨hX, vs, h1, h2, h4⟩ := id hown
  cases a with
  | none =>
    obtain ⟨rfl, rfl⟩ := h.nil rfl
    have hn0 : l' = [] := List.eq_nil_of_length_eq_zero h.ll
    subst hn0
    exact ⟨v, w, fun ty => run_append_owned_none w base 22 ty 31 i 2 Try.underlying22 hi v _ _ h2, by rw [List.append_nil]; exact hown, Below.refl _ _, fun _ _ _ => rfl, .inl rfl⟩
  | some ad =>
    have hc : ∀ j u, (flatP vs')[j]? = some u → w.cell? (ad.add j) = some u := by
      intro j u hj
      obtain ⟨g, off, e1, e2⟩ := h.row j u hj
      cases e1
      rw [addr_add]; exact e2
    have hone : ∀ u ∈ flatP vs', u.oneCell' = true := by
      intro u hu
      obtain ⟨p, hp, hup⟩ := List.mem_flatMap.1 hu
      obtain ⟨j, hj, e⟩ := List.mem_iff_getElem.1 hp
      have hjl : j < l'.length := by rw [h.ll, ← h.vl]; exact hj
      obtain ⟨a1, n1, c1, a2, n2, c2, q1, q2, _, _⟩ := h.gd j p l'[j] (by rw [List.getElem?_eq_getElem hj, e]) (List.getElem?_eq_getElem hjl)
      simp at hup
      rcases hup with q | q
      · rw [q, q1]; rfl
      · rw [q, q2]; rfl
    obtain ⟨v', w', r1, r2, r3, _, r5⟩ := run_append_own_at w base 22 0 31 i _ 2 48 Try.underlying22 hi hz hsz hby rfl (by decide) v l.length (flatP vs) h2 ad m c (flatP vs') (by rw [flatP_len, h.vl]) hc hone (by unfold maxLen; omega) (by omega) hbase
    have hkeep : ∀ {K' : Nat → Prop} {p : Value × Value} {e : List Int × List Int}, (∀ b, K' b → v.ownBlock ≠ some b ∧ X b) → Gp2 K' w p e → Gp2 (fun b => v'.ownBlock ≠ some b ∧ X b) w' p e := by
      intro K' p e hK' hg
      obtain ⟨a1, n1, c1, a2, n2, c2, q1, q2, q3, q4⟩ := hg
      have hsk : ∀ {a : Option Addr} {n c : Nat} {bs : List Int}, Sk K' w a n c bs → Sk (fun b => v'.ownBlock ≠ some b ∧ X b) w' a n c bs := by
        intro a n c bs hs
        refine ⟨⟨?_, hs.ag.nil, hs.ag.l, hs.ag.b⟩, fun x hx hn => ?_⟩
        · rcases hs.ag.i with q | ⟨gb, off, q1, q2, q3, q4, q5, q7⟩
          · exact .inl q
          · refine .inr ⟨gb, off, q1, q2, q3, q4, q5, fun j hj => ?_⟩
            rw [← q7 j hj]
            exact World.cell?_of_block (r3.block gb (block_lt_of_cell (q7 j hj)) (fun e => (hK' _ (hs.k _ q1 q3)).1 e.symm))
        · refine ⟨?_, (hK' _ (hs.k x hx hn)).2⟩
          rcases r5 with q | q
          · rw [q]; exact (hK' _ (hs.k x hx hn)).1
          · rw [q]; intro e; have := hs.old hx hn; simp at e; omega
      exact ⟨a1, n1, c1, a2, n2, c2, q1, q2, hsk q3, hsk q4⟩
    refine ⟨v', w', fun ty => r1, ⟨hX, vs ++ vs', by simp [h1, h.vl, h.ll], ?_, ?_⟩, ?_, fun k hk hn => r3.block k hk (fun e => hn e.symm), r5⟩
    · rw [List.length_append, h.ll, flatP_app]; exact r2
    · intro j p e q1 q2
      by_cases hj : j < vs.length
      · rw [List.getElem?_append_left hj] at q1
        rw [List.getElem?_append_left (by omega)] at q2
        exact hkeep (fun b hb => hb) (h4 j p e q1 q2)
      · rw [List.getElem?_append_right (by omega)] at q1
        rw [List.getElem?_append_right (by omega), ← h1] at q2
        exact hkeep hK (h.gd _ p e q1 q2)
    · exact (Below.refl _ _).grown r3 hbase (fun k hk => (hOw k hk).1)
theorem appP {X : Nat → Prop} {w : World} {base : Nat} {v : Value} {l : PList} (hown : OwnL X w base v l) {K : Nat → Prop} {a : Option Addr} {m c : Nat} {vs' : List (Value × Value)} {l' : PList} (h : PAt K w a m c vs' l') (hK : ∀ b, K b → v.ownBlock ≠ some b ∧ X b) (hlen : l.length + m ≤ 2932031007400) (hbase : base ≤ w.heap.size) :
    ∃ v' w', (∀ ty, (Builtin.append_ #[22, 22] ty #[v, .slice a m c]).run Try.prog w = .ok v' w') ∧ OwnL X w' base v' (l ++ l') ∧ Below base w w' := by
  obtain ⟨v', w', h1, h2, h3, _⟩ := appQ hown h hK hlen hbase
  exact ⟨v', w', h1, h2, h3⟩
/-- One pair in a new block. -/
theorem PAt.one {K : Nat → Prop} {w w' : World} {g : Nat} {a a' : Option Addr} {n c n' c' : Nat} {k x : List Int} (h : New w w' g #[.slice a n c, .slice a' n' c'] 31) (h1 : Sk K w a n c k) (h2 : Sk K w a' n' c' x) (hKg : K g) : PAt K w' (some ⟨g, 0, none⟩) 1 1 [(.slice a n c, .slice a' n' c')] [(k, x)] := by
  refine ⟨rfl, rfl, Nat.le_refl _, (fun e => by cases e), fun j u hj => ⟨g, 0, rfl, ?_⟩, (fun j p e q1 q2 => ?_), fun x hx _ => by cases hx; exact hKg⟩
  · rw [cell_of_row _ _ _ _ _ _ h.row, Nat.zero_add]
    match j, hj with
    | 0, hj => exact hj
    | 1, hj => exact hj
    | j + 2, hj => simp [flatP] at hj
  · match j, q1, q2 with
    | 0, q1, q2 =>
      simp at q1 q2
      subst q1 q2
      exact ⟨a, n, c, a', n', c', rfl, rfl, h1.go h.below, h2.go h.below⟩
    | j + 1, q1, _ => simp at q1
end Go.Proofs.Ytdkpilgelgjieaa
/- The root of a list; what is done ahead of the statements. -/
namespace Go.Proofs.Ytdkpilgelgjieaa
open Go.RowKit
open Tr
open Di (dref)
set_option linter.unusedVariables false
set_option maxRecDepth 100000
def runE : Option (List Int) → PList → Int
  | _, [] => 0
  | lk, (k, x) :: r => if addE lk k x = 0 then runE (some k) r else addE lk k x
def runT : Tr → PList → Tr
  | t, [] => t
  | t, (k, x) :: r => runT (putT t k x) r
theorem results_dt {fn : Func} {p q : Tmp} {f : Nat → Value} (h : fn.results = #[.cell p 24, .tmp q]) (w : World) (g : Nat) (ds : List Int) (hl : ds.length = 32) (hp : f p = .pointer (some ⟨g, 0, none⟩)) {v : Value} (hq : f q = v) (hg : Rw g w (B8 ds) 24) : (resF f fn.results).run Try.prog w = .ok (.tuple #[.agg (B8 ds), v]) w := by
  have := run_loadVar_row (P := Try.prog) w g 24 24 _ _ _ hg Try.underlying24 rfl (infoD' hl)
  unfold resF
  rw [h]
  simp [hp, hq, this, asAddr]
theorem Bu.lo {Y : Nat → Prop} {w : World} {base gB m : Nat} {t : Tr} {lk : Option (List Int)} {vW : Value} (h : Bu Y w base gB m t lk vW) : (∀ k, vW.ownBlock = some k → base ≤ k ∧ k < w.heap.size) ∧ gB < w.heap.size := by
  obtain ⟨pV, rs, fs, h1, h2⟩ := h
  exact ⟨h1.wv.lo, lt_of_get h1.row⟩
theorem Bu.rebase {Y : Nat → Prop} {w : World} {base gB : Nat} {t : Tr} {lk : Option (List Int)} {vW : Value} (h : Bu Y w base gB 0 t lk vW) (b' : Nat) : Bu Y w b' gB 0 no none (.slice none 0 0) ∧ vW = .slice none 0 0 := by
  obtain ⟨pV, rs, fs, h1, h2⟩ := h
  rcases h2 with ⟨_, rfl, rfl, rfl, rfl, rfl, rfl⟩ | ⟨_, _, _, _, _, _, _, _, _, _, _, _, _, hm⟩
  · exact ⟨⟨_, [], [], ⟨h1.row, .inl ⟨rfl, rfl, rfl⟩, h1.kg, h1.sm⟩, .inl ⟨rfl, rfl, rfl, rfl, rfl, rfl, rfl⟩⟩, rfl⟩
  · omega
theorem Af.blw {gB : Nat} {w u w' : World} {v v' : Value} (h : Af gB u w' v v') (hb : Bl w u) (hg : w.heap.size ≤ gB) (ho : ∀ k, v.ownBlock = some k → w.heap.size ≤ k) : Bl w w' := ⟨h.os.trans (Below.os hb), h.tape.trans (Below.tape hb), h.output.trans (Below.output hb), Nat.le_trans hb.size h.size, fun k hk => (h.block k (Nat.lt_of_lt_of_le hk hb.size) (by omega) (fun e => by have := ho k e; omega)).trans (Below.block hb k hk)⟩
theorem rng2 {w : World} {g o : Nat} {u v : Value} (h1 : w.cell? ⟨g, o, none⟩ = some u) (h2 : w.cell? ⟨g, o + 1, none⟩ = some v) : w.rangeAt g o [u, v] := fun m x hm => by
  match m, hm with
  | 0, hm => simp at hm; subst hm; exact h1
  | 1, hm => simp at hm; subst hm; exact h2
  | m + 2, hm => simp at hm
theorem rootP_len8 (t : Tr) : (rootP t).length = 32 := by unfold rootP; split <;> exact dref_len _
theorem alive_add : addE none [97] [1] = 0 := by simp [addE]
theorem alive_tree : putT no [97] [1] = leaf [6, 1] [1] := by simp [putT, put, Ni.nib]
theorem alive_enc : encT (leaf [6, 1] [1]) = [196, 130, 32, 97, 1] := by kernel_rfl
theorem alive_root : rootP (putT no [97] [1]) = dref [196, 130, 32, 97, 1] := by rw [alive_tree, ← alive_enc]; rfl
set_option maxHeartbeats 4000000 in
theorem bulkroot_any {K : Nat → Prop} {w : World} {a : Option Addr} {n c : Nat} {vs : List (Value × Value)} {l : PList} (hl : PAt K w a n c vs l) (hn : n ≤ 2932031007400) :
    Calls Try.prog 4 #[.slice a n c] w fun e w' => ∃ u, e = .returned u ∧ (fun u w' => u = .tuple #[.agg (B8 (if runE none l = 0 then rootP (runT no l) else z32)), .int .i64 (runE none l)] ∧ Bl w w') u w' := by
  have hB := Bl.refl w
  have hlo := hl.old
  have hll := hl.ll
  refine cw_enter Try.func4 rfl 28 rfl ?_
  show CW _ _ _ _ _ _ _ [(0, .slice a n c)] _
  refine cw_seq ?_
  refine cw_region ?_
  refine rw_new 2 (B8 z32) 24 (fun _ => by kernel_rfl) (fun _ => by kernel_rfl) ?_
  intro w1 gd hnd
  replace hB := hB.go hnd.below
  have hrd : Rw gd w1 (B8 z32) 24 := hnd.row
  have hgd := hnd.hg
  have hz1 := hnd.size
  refine rp 3 (.int .i64 0) ?_
  refine rw_nil ?_
  refine nw_then ?_
  refine cw_seq ?_
  refine cw_region ?_
  refine rw_call 8 6 #[] (fun _ => by kernel_rfl) (fun _ => by kernel_rfl) (R := fun u w' => (∃ gB, u = .pointer (some ⟨gB, 0, none⟩) ∧ Bu (fun _ => True) w' w1.heap.size gB 0 no none (.slice none 0 0) ∧ w1.heap.size ≤ gB) ∧ Bl w1 w') (bnew_any (Y := fun _ => True) w1.heap.size) ?_
  rintro _ u1 ⟨⟨gB, rfl, hU, hgB⟩, hb1⟩
  replace hB := hB.go hb1
  replace hrd := hrd.go hb1
  refine rp 4 (.pointer (some ⟨gB, 0, none⟩)) ?_
  refine rw_nil ?_
  refine nw_then ?_
  refine cw_seq ?_
  refine cw_seq ?_
  refine cw_region ?_
  refine rp 9 (.slice a n c) ?_
  refine rp 10 (.int .i64 n) ?_
  refine rp 11 (.int .i64 0) ?_
  refine rw_nil ?_
  refine nw_then ?_
  refine cw_block ?_
  refine cw_loop (X := Nat × Tr × Option (List Int) × Value) (fun q => [(11, .int .i64 ((q.1 : Nat) : Int)), (9, .slice a n c), (10, .int .i64 n), (4, .pointer (some ⟨gB, 0, none⟩)), (2, .pointer (some ⟨gd, 0, none⟩))]) (fun q v => Bl w v ∧ Rw gd v (B8 z32) 24 ∧ Bu (fun _ => True) v w1.heap.size gB q.1 q.2.1 q.2.2.1 q.2.2.2 ∧ q.1 ≤ n ∧ runE none l = runE q.2.2.1 (l.drop q.1) ∧ runT no l = runT q.2.1 (l.drop q.1)) (fun q => n - q.1) (0, no, none, .slice none 0 0) (by exact ⟨fun _ => by kernel_rfl, ⟨fun _ => by kernel_rfl, ⟨fun _ => by kernel_rfl, ⟨fun _ => by kernel_rfl, ⟨fun _ => by kernel_rfl, trivial⟩⟩⟩⟩⟩) ⟨hB, hrd, hU, Nat.zero_le _, rfl, rfl⟩ ?_
  clear hB hrd hU
  rintro ⟨j, t, lk, vW⟩ v ⟨hB, hrd, hU, hj, hE, hT⟩
  simp only at hB hrd hU hj hE hT
  show CW _ _ _ _ _ _ _ [(11, .int .i64 ((j : Nat) : Int)), (9, .slice a n c), (10, .int .i64 n), (4, .pointer (some ⟨gB, 0, none⟩)), (2, .pointer (some ⟨gd, 0, none⟩))] _
  by_cases hlt : j < n
  · skip
    obtain ⟨gE, oE, a1, n1, c1, a2, n2, c2, k, x, ea, hej, hc1, hc2, hs1, hs2⟩ := (hlo.go hB).at hlt
    subst ea
    have hjl : l.drop j = (k, x) :: l.drop (j + 1) := by rw [List.drop_eq_getElem_cons (by omega)]; congr 1; exact (List.getElem?_eq_some_iff.1 hej).2
    rw [hjl] at hE hT
    refine cw_seq ?_
    refine cw_region ?_
    refine rv 12 (.bool true) (fun _ => ol_conv (v := .bool (decide (((j : Nat) : Int) < (n : Int)))) (by kernel_rfl) (congrArg Value.bool (decide_eq_true (by omega)))) ?_
    refine rw_nil ?_
    refine nw_then ?_
    refine cw_seq ?_
    refine cw_cond_t (fun _ => by kernel_rfl) ?_
    refine cw_skip ?_
    refine nw_then ?_
    refine cw_seq ?_
    refine cw_block ?_
    refine cw_seq ?_
    refine cw_region ?_
    refine rv 13 (.pointer (some ⟨gE, oE + j * 2, none⟩)) (fun _ => ol_index 22 _ _ gE oE j n c 2 31 rfl (by kernel_rfl) (by kernel_rfl) hlt Try.underlying22 (by kernel_rfl)) ?_
    refine rv 14 (.agg #[.slice a1 n1 c1, .slice a2 n2 c2]) (fun _ => ol_mid 31 _ gE (oE + j * 2) [.slice a1 n1 c1, .slice a2 n2 c2] _ rfl (by kernel_rfl) (rng2 hc1 hc2) Try.underlying31 rfl (by kernel_rfl)) ?_
    refine rw_new 6 #[.slice none 0 0, .slice none 0 0] 31 (fun _ => by kernel_rfl) (fun _ => by kernel_rfl) ?_
    intro wA gA hnA
    refine rw_put gA #[.slice a1 n1 c1, .slice a2 n2 c2] (fun _ => by kernel_rfl) (fun _ => ol_store 31 _ _ _ _ _ _ rfl (by kernel_rfl) (by kernel_rfl) hnA.row (by kernel_rfl) rfl (by kernel_rfl)) ?_
    intro wC hpC
    have hnC := hnA.put hpC
    have hgA := hnC.hg
    replace hB := hB.go hnC.below
    replace hrd := hrd.go hnC.below
    replace hU := hU.go hnC.below
    replace hs1 := hs1.go hnC.below
    replace hs2 := hs2.go hnC.below
    have hrA : Rw gA wC #[.slice a1 n1 c1, .slice a2 n2 c2] 31 := hnC.row
    refine rw_nil ?_
    refine nw_then ?_
    refine cw_seq ?_
    refine cw_region ?_
    refine rp 15 (.pointer (some ⟨gB, 0, none⟩)) ?_
    refine rp 16 (.pointer (some ⟨gA, 0, none⟩)) ?_
    refine rv 17 (.slice a1 n1 c1) (fun _ => ol_cell 29 _ ⟨gA, 0, none⟩ _ _ rfl (by kernel_rfl) (by rw [cell_of_row _ _ _ _ _ _ hrA]; rfl) Try.underlying29 rfl) ?_
    refine rp 18 (.pointer (some ⟨gA, 1, none⟩)) ?_
    refine rv 19 (.slice a2 n2 c2) (fun _ => ol_cell 29 _ ⟨gA, 1, none⟩ _ _ rfl (by kernel_rfl) (by rw [cell_of_row _ _ _ _ _ _ hrA]; rfl) Try.underlying29 rfl) ?_
    have hUl := hU.lo
    refine rw_call 20 7 #[.pointer (some ⟨gB, 0, none⟩), .slice a1 n1 c1, .slice a2 n2 c2] (fun _ => by kernel_rfl) (fun _ => by kernel_rfl) (R := RAd (fun _ => True) (wC) w1.heap.size gB j t lk vW k x) (badd_any hU (fun _ _ => trivial) (by have := hB.size; omega) (by omega) (hs1.mono (fun b hb => ⟨by have := hb.2; omega, by have := hb.2; omega⟩)) (hs2.mono (fun b hb => ⟨by have := hb.2; omega, by have := hb.2; omega⟩))) ?_
    rintro _ u2 ⟨rfl, vW2, hU2, hA2⟩
    have hgdl := lt_of_get hrd
    replace hrd : Rw gd u2 (B8 z32) 24 := (hA2.block gd hgdl (by omega) (fun e => by have := (hUl.1 gd e).1; omega)).trans hrd
    replace hB : Bl w u2 := hA2.blw hB (by omega) (fun k hk => by have := (hUl.1 k hk).1; omega)
    refine rp 7 (.int .i64 (addE lk k x)) ?_
    refine rw_nil ?_
    refine nw_then ?_
    refine cw_seq ?_
    refine cw_region ?_
    refine rp 21 (.int .i64 (addE lk k x)) ?_
    refine rp 22 (.bool (!((addE lk k x : Int) == (0 : Int)))) ?_
    refine rw_nil ?_
    refine nw_then ?_
    by_cases he : addE lk k x = 0
    · skip
      rw [show (!((addE lk k x : Int) == (0 : Int))) = false from by simp [he]]
      have hU := hU2
      rw [if_pos he, if_pos he, if_pos he] at hU
      refine cw_cond_f (fun _ => by kernel_rfl) ?_
      refine cw_skip ?_
      refine nw_block ?_
      refine nw_then ?_
      refine cw_region ?_
      refine rv 25 (.int .i64 (((j : Nat) : Int) + 1)) (fun _ => ol_conv (v := .int .i64 (IntKind.i64.wrap (((j : Nat) : Int) + 1))) (by kernel_rfl) (congrArg (Value.int .i64) (wrap64 (by omega) (by omega)))) ?_
      refine rp 11 (.int .i64 (((j : Nat) : Int) + 1)) ?_
      refine rw_nil ?_
      exact nw_round (E := fun q => [(11, .int .i64 ((q.1 : Nat) : Int)), (9, .slice (some ⟨gE, oE, none⟩) n c), (10, .int .i64 n), (4, .pointer (some ⟨gB, 0, none⟩)), (2, .pointer (some ⟨gd, 0, none⟩))]) (R := fun q v => Bl w v ∧ Rw gd v (B8 z32) 24 ∧ Bu (fun _ => True) v w1.heap.size gB q.1 q.2.1 q.2.2.1 q.2.2.2 ∧ q.1 ≤ n ∧ runE none l = runE q.2.2.1 (l.drop q.1) ∧ runT no l = runT q.2.1 (l.drop q.1)) (μ := fun q => n - q.1) (x := (j, t, lk, vW)) (j + 1, putT t k x, some k, vW2) (by exact ⟨fun _ => by kernel_rfl, ⟨fun _ => by kernel_rfl, ⟨fun _ => by kernel_rfl, ⟨fun _ => by kernel_rfl, ⟨fun _ => by kernel_rfl, trivial⟩⟩⟩⟩⟩) ⟨hB, hrd, hU, by simp only; omega, by simp only [runE] at hE; rw [if_pos he] at hE; exact hE, hT⟩ (by show n - (j + 1) < n - j; omega)
    · skip
      rw [show (!((addE lk k x : Int) == (0 : Int))) = true from by simp [he]]
      have hre : runE none l = addE lk k x := by rw [hE]; simp only [runE]; rw [if_neg he]
      refine cw_cond_t (fun _ => by kernel_rfl) ?_
      refine cw_seq ?_
      refine cw_region ?_
      refine rp 23 (.agg (B8 z32)) ?_
      refine rp 24 (.int .i64 (addE lk k x)) ?_
      refine rw_put gd (B8 z32) (fun _ => by kernel_rfl) (fun _ => ol_store 24 _ _ _ _ _ _ rfl (by kernel_rfl) (by kernel_rfl) hrd (infoD' (show z32.length = 32 from rfl)) (z8_size (show z32.length = 32 from rfl)) (B8_one _)) ?_
      intro uE hpE
      replace hB : Bl w uE := hpE.below hB (by omega) hB.size
      have hrE : Rw gd uE (B8 z32) 24 := hpE.row hrd
      refine rp 3 (.int .i64 (addE lk k x)) ?_
      refine rw_nil ?_
      refine nw_then ?_
      refine cw_ret ?_
      refine nw_ret_block ?_
      refine nw_ret_then ?_
      refine nw_ret_then ?_
      refine nw_ret_block ?_
      refine nw_ret_then ?_
      exact nw_ret_body (.tuple #[.agg (B8 z32), .int .i64 (addE lk k x)]) (fun _ => results_dt Try.results4 _ gd z32 rfl (by kernel_rfl) (by kernel_rfl) hrE) ⟨_, rfl, by rw [hre, if_neg he], hB⟩
  obtain rfl : j = n := by omega
  show CW _ _ _ _ _ _ _ [(11, .int .i64 ((j : Nat) : Int)), (9, .slice a j c), (10, .int .i64 ((j : Nat) : Int)), (4, .pointer (some ⟨gB, 0, none⟩)), (2, .pointer (some ⟨gd, 0, none⟩))] _
  rw [List.drop_of_length_le (by omega)] at hE hT
  simp only [runE, runT] at hE hT
  refine cw_seq ?_
  refine cw_region ?_
  refine rv 12 (.bool false) (fun _ => ol_conv (v := .bool (decide (((j : Nat) : Int) < ((j : Nat) : Int)))) (by kernel_rfl) (congrArg Value.bool (decide_eq_false (by omega)))) ?_
  refine rw_nil ?_
  refine nw_then ?_
  refine cw_seq ?_
  refine cw_cond_f (fun _ => by kernel_rfl) ?_
  refine cw_exit ?_
  refine nw_exit_then ?_
  refine nw_exit_then ?_
  refine nw_exit_here ?_
  refine nw_then ?_
  refine cw_seq ?_
  refine cw_region ?_
  refine rp 26 (.pointer (some ⟨gB, 0, none⟩)) ?_
  refine rw_call 27 8 #[.pointer (some ⟨gB, 0, none⟩)] (fun _ => by kernel_rfl) (fun _ => by kernel_rfl) (R := fun u w' => u = .agg (B8 (rootP t)) ∧ Bl (v) w') (broot_any hU) ?_
  rintro _ u5 ⟨rfl, hb5⟩
  replace hB := hB.go hb5
  replace hrd := hrd.go hb5
  replace hU := hU.go hb5
  refine rw_put gd (B8 (rootP t)) (fun _ => by kernel_rfl) (fun _ => ol_store 24 _ _ _ _ _ _ rfl (by kernel_rfl) (by kernel_rfl) hrd (infoD' (rootP_len8 t)) (z8_size (rootP_len8 t)) (B8_one _)) ?_
  intro uE hpE
  replace hB : Bl w uE := hpE.below hB (by omega) hB.size
  have hrE : Rw gd uE (B8 (rootP t)) 24 := hpE.row hrd
  refine rp 3 (.int .i64 0) ?_
  refine rw_nil ?_
  refine nw_then ?_
  refine cw_ret ?_
  exact nw_ret_body (.tuple #[.agg (B8 (rootP t)), .int .i64 0]) (fun _ => results_dt Try.results4 _ gd (rootP t) (rootP_len8 t) (by kernel_rfl) (by kernel_rfl) hrE) ⟨_, rfl, by rw [hE, if_pos rfl, hT], hB⟩
set_option maxHeartbeats 4000000 in
theorem alive_any {w : World} :
    Calls Try.prog 5 #[] w fun e w' => ∃ u, e = .returned u ∧ (fun u w' => u = .bool true ∧ Bl w w') u w' := by
  have hB := Bl.refl w
  have hdl := dref_len [196, 130, 32, 97, 1]
  obtain ⟨ds, hds⟩ : ∃ ds, dref [196, 130, 32, 97, 1] = ds := ⟨_, rfl⟩
  rw [hds] at hdl
  refine cw_enter Try.func5 rfl 45 rfl ?_
  show CW _ _ _ _ _ _ _ [] _
  refine cw_seq ?_
  refine cw_region ?_
  refine rp 0 (.bool false) ?_
  refine rw_nil ?_
  refine nw_then ?_
  refine cw_seq ?_
  refine cw_region ?_
  refine rw_newS 6 #[.int .u8 97] 5 1 (fun _ => by kernel_rfl) (fun _ => by kernel_rfl) ?_
  intro w1 g2 hn3
  obtain ⟨w4, hr5, hb6, hs7⟩ := const_a (x := 97) (by omega) hn3 (K := fun b => True) (fun _ _ => trivial)
  refine rw_v 7 (.slice (some ⟨g2, 0, none⟩) 1 1) (fun _ => by kernel_rfl) (fun _ => hr5 _ _ _ rfl (by kernel_rfl)) ?_
  replace hB := hB.go hb6
  refine rw_newS 8 #[.int .u8 1] 5 1 (fun _ => by kernel_rfl) (fun _ => by kernel_rfl) ?_
  intro w8 g9 hn10
  have hs11 : Sk (fun b => True) w8 (some ⟨g9, 0, none⟩) 1 1 [1] := one_sk (by omega) hn10 (fun _ _ => trivial)
  replace hB := hB.go hn10.below
  replace hs7 := hs7.go hn10.below
  refine rp 9 (.agg #[.slice (some ⟨g2, 0, none⟩) 1 1, .slice (some ⟨g9, 0, none⟩) 1 1]) ?_
  refine rw_newS 10 #[.slice (some ⟨g2, 0, none⟩) 1 1, .slice (some ⟨g9, 0, none⟩) 1 1] 31 1 (fun _ => by kernel_rfl) (fun _ => by kernel_rfl) ?_
  intro wP gP hnP
  have hP := PAt.one hnP hs7 hs11 trivial
  replace hB := hB.go hnP.below
  replace hs7 := hs7.go hnP.below
  replace hs11 := hs11.go hnP.below
  refine rw_call 11 4 #[.slice (some ⟨gP, 0, none⟩) 1 1] (fun _ => by kernel_rfl) (fun _ => by kernel_rfl) (R := fun u w' => u = .tuple #[.agg (B8 ds), .int .i64 0] ∧ Bl wP w') (((bulkroot_any hP (by omega)).mono (fun e w' ⟨u, e1, e2, e3⟩ => ⟨u, e1, by rw [e2, show runE none [([97], [1])] = 0 from by simp [runE, alive_add], if_pos rfl, show rootP (runT no [([97], [1])]) = ds from by rw [← hds, ← alive_root]; rfl], e3⟩))) ?_
  rintro _ u1 ⟨rfl, hb1⟩
  replace hB := hB.go hb1
  replace hs7 := hs7.go hb1
  replace hs11 := hs11.go hb1
  refine rp 5 (.tuple #[.agg (B8 ds), .int .i64 0]) ?_
  refine rp 12 (.agg (B8 ds)) ?_
  refine rp 13 (.int .i64 0) ?_
  have hz0 := hB.size
  refine rw_new 1 (B8 z32) 24 (fun _ => by kernel_rfl) (fun _ => by kernel_rfl) ?_
  intro w2 gd hnd
  replace hB := hB.go hnd.below
  replace hs7 := hs7.go hnd.below
  replace hs11 := hs11.go hnd.below
  have hrd : Rw gd w2 (B8 z32) 24 := hnd.row
  have hgd := hnd.hg
  refine rw_put gd (B8 ds) (fun _ => by kernel_rfl) (fun _ => ol_store 24 _ _ _ _ _ _ rfl (by kernel_rfl) (by kernel_rfl) hrd (infoD' hdl) (z8_size hdl) (B8_one _)) ?_
  intro w3 hpE
  replace hB : Bl w w3 := hpE.below hB (by omega) hB.size
  replace hrd : Rw gd w3 (B8 ds) 24 := hpE.row hrd
  refine rp 2 (.int .i64 0) ?_
  refine rw_nil ?_
  refine nw_then ?_
  refine cw_seq ?_
  refine cw_region ?_
  have hz3 := hB.size
  have hgd3 := lt_of_get hrd
  refine rw_call 14 6 #[] (fun _ => by kernel_rfl) (fun _ => by kernel_rfl) (R := fun u w' => (∃ gB, u = .pointer (some ⟨gB, 0, none⟩) ∧ Bu (fun _ => True) w' (w3.heap.size + 2) gB 0 no none (.slice none 0 0) ∧ w3.heap.size ≤ gB) ∧ Bl w3 w') (bnew_any (Y := fun _ => True) _) ?_
  rintro _ u4 ⟨⟨gB, rfl, hU, hgB⟩, hb4⟩
  replace hB := hB.go hb4
  replace hrd := hrd.go hb4
  refine rp 3 (.pointer (some ⟨gB, 0, none⟩)) ?_
  refine rw_nil ?_
  refine nw_then ?_
  refine cw_seq ?_
  refine cw_seq ?_
  refine cw_region ?_
  refine rp 15 (.pointer (some ⟨gB, 0, none⟩)) ?_
  refine rp 16 (.bool false) ?_
  refine rw_nil ?_
  refine nw_then ?_
  refine cw_cond_f (fun _ => by kernel_rfl) ?_
  refine cw_skip ?_
  refine nw_then ?_
  refine cw_seq ?_
  refine cw_region ?_
  refine rp 17 (.pointer (some ⟨gB, 0, none⟩)) ?_
  have hglhn14 := hU.lo.2
  refine rw_newS 18 #[.int .u8 97] 5 1 (fun _ => by kernel_rfl) (fun _ => by kernel_rfl) ?_
  intro w12 g13 hn14
  obtain ⟨w15, hr16, hb17, hs18⟩ := const_a (x := 97) (by omega) hn14 (K := fun b => gB < b) (fun _ _ => by omega)
  refine rw_v 19 (.slice (some ⟨g13, 0, none⟩) 1 1) (fun _ => by kernel_rfl) (fun _ => hr16 _ _ _ rfl (by kernel_rfl)) ?_
  replace hB := hB.go hb17
  replace hrd := hrd.go hb17
  replace hU := hU.go hb17
  have hglhn21 := hU.lo.2
  refine rw_newS 20 #[.int .u8 1] 5 1 (fun _ => by kernel_rfl) (fun _ => by kernel_rfl) ?_
  intro w19 g20 hn21
  have hs22 : Sk (fun b => gB < b) w19 (some ⟨g20, 0, none⟩) 1 1 [1] := one_sk (by omega) hn21 (fun _ _ => by omega)
  replace hB := hB.go hn21.below
  replace hrd := hrd.go hn21.below
  replace hU := hU.go hn21.below
  replace hs18 := hs18.go hn21.below
  have hU5 := (hU.rebase (w19).heap.size).1
  refine rw_call 21 7 #[.pointer (some ⟨gB, 0, none⟩), .slice (some ⟨g13, 0, none⟩) 1 1, .slice (some ⟨g20, 0, none⟩) 1 1] (fun _ => by kernel_rfl) (fun _ => by kernel_rfl) (R := fun u w' => u = .int .i64 0 ∧ ∃ vW, Bu (fun _ => True) w' (w19).heap.size gB 1 (putT no [97] [1]) (some [97]) vW ∧ Af gB (w19) w' (.slice none 0 0) vW) (((badd_any hU5 (fun _ _ => trivial) (Nat.le_refl _) (by omega) (hs18.keep (K := fun b => gB < b) (L := fun b => b < (w19).heap.size ∧ b ≠ gB) (fun b hb hl => ⟨rfl, hl, by omega⟩)) (hs22.keep (K := fun b => gB < b) (L := fun b => b < (w19).heap.size ∧ b ≠ gB) (fun b hb hl => ⟨rfl, hl, by omega⟩))).mono (fun e w' ⟨u, e1, e2, vW, e3, e4⟩ => ⟨u, e1, by rw [e2, alive_add], vW, by rw [alive_add, if_pos rfl, if_pos rfl, if_pos rfl] at e3; exact e3, e4⟩))) ?_
  rintro _ u6 ⟨rfl, vW, hU6, hA6⟩
  have hgdl := lt_of_get hrd
  have hrd6 : Rw gd u6 (B8 ds) 24 := (hA6.block gd hgdl (by omega) (by simp [KF, Value.ownBlock])).trans hrd
  have hB6 : Bl w u6 := hA6.blw hB (by omega) (fun k hk => by cases hk)
  clear hB hrd hU
  have hB := hB6
  have hrd := hrd6
  have hU := hU6
  refine rp 4 (.int .i64 0) ?_
  refine rw_nil ?_
  refine nw_then ?_
  refine cw_seq ?_
  refine cw_draw (fun v => Rw gd v (B8 ds) 24) (by kernel_rfl) (hrd.go (Below.refl _ _).drew) ?_
  replace hB := hB.drew
  replace hrd := hrd.go (Below.refl _ _).drew
  replace hU := hU.go (Below.refl _ _).drew
  refine dt 0 22 (.int .i64 0) (fun v hv _ => by kernel_rfl) hrd ?_
  refine dt 1 23 (.bool true) (fun v hv _ => by kernel_rfl) hrd ?_
  refine dt 2 24 (.bool true) (fun v hv _ => by kernel_rfl) hrd ?_
  refine dt 3 25 (.int .i64 0) (fun v hv _ => by kernel_rfl) hrd ?_
  refine dt 4 26 (.bool true) (fun v hv _ => by kernel_rfl) hrd ?_
  refine dt 5 27 (.bool true) (fun v hv _ => by kernel_rfl) hrd ?_
  refine dt 6 28 (.bool true) (fun v hv _ => by kernel_rfl) hrd ?_
  refine dt 7 29 (.agg (B8 ds)) (fun v hv _ => ol_row 24 _ _ _ _ _ _ rfl (by kernel_rfl) hv Try.underlying24 rfl (infoD' hdl)) hrd ?_
  refine dw_ready [8] (by kernel_rfl) (by simp) ?_
  refine ar_newS 8 30 #[.int .u8 196, .int .u8 130, .int .u8 32, .int .u8 97, .int .u8 1] 5 5 rfl (fun _ => by kernel_rfl) (fun _ => by kernel_rfl) (fun w' g h => hrd.go h.below) ?_ ar_nil
  intro w7 g7 hn7
  have hag : Ag w7 (some ⟨g7, 0, none⟩) 5 5 [196, 130, 32, 97, 1] := Ni.row_ag (show Ni.Row g7 w7 [196, 130, 32, 97, 1] from hn7.row) rfl (fun x hx => by simp at hx; omega) (show (5 : Nat) ≤ 9223372036854775807 by decide)
  replace hB := hB.go hn7.below
  replace hrd := hrd.go hn7.below
  replace hU := hU.go hn7.below
  refine dw_ready [9] (by kernel_rfl) (by simp) ?_
  refine ar_call 9 31 9 #[.slice (some ⟨g7, 0, none⟩) 5 5] rfl (fun _ => by kernel_rfl) (fun _ => by kernel_rfl) (R := fun u w' => u = .agg (B8 ds) ∧ Bl (w7) w') ((rdof_any (some ⟨g7, 0, none⟩) 5 5 _ (w7) hag (by omega)).mono (fun e w' h => ⟨_, by rw [h.1, hds], rfl, h.2⟩)) (fun u w' h => hrd.go h.2) ?_ ar_nil
  rintro _ u8 ⟨rfl, hbu8⟩
  replace hB := hB.go hbu8
  replace hrd := hrd.go hbu8
  replace hU := hU.go hbu8
  refine dt 10 32 (.bool true) (fun v hv _ => ol_eqD rfl (by kernel_rfl) (by kernel_rfl) hdl) hrd ?_
  refine dt 11 33 (.bool true) (fun v hv _ => by kernel_rfl) hrd ?_
  refine dt 12 34 (.bool true) (fun v hv _ => by kernel_rfl) hrd ?_
  refine dt 13 35 (.pointer (some ⟨gB, 0, none⟩)) (fun v hv _ => by kernel_rfl) hrd ?_
  refine dt 15 37 (.agg (B8 ds)) (fun v hv _ => ol_row 24 _ _ _ _ _ _ rfl (by kernel_rfl) hv Try.underlying24 rfl (infoD' hdl)) hrd ?_
  refine dw_ready [14] (by kernel_rfl) (by simp) ?_
  refine ar_call 14 36 8 #[.pointer (some ⟨gB, 0, none⟩)] rfl (fun _ => by kernel_rfl) (fun _ => by kernel_rfl) (R := fun u w' => u = .agg (B8 ds) ∧ Bl (u8) w') ((broot_any hU).mono (fun e w' ⟨u, e1, e2, e3⟩ => ⟨u, e1, by rw [e2, alive_root, hds], e3⟩)) (fun u w' h => hrd.go h.2) ?_ ar_nil
  rintro _ u9 ⟨rfl, hbu9⟩
  replace hB := hB.go hbu9
  replace hrd := hrd.go hbu9
  replace hU := hU.go hbu9
  refine dt 16 38 (.bool true) (fun v hv _ => ol_eqD rfl (by kernel_rfl) (by kernel_rfl) hdl) hrd ?_
  refine dt 17 39 (.bool true) (fun v hv _ => by kernel_rfl) hrd ?_
  refine dt 18 40 (.bool true) (fun v hv _ => by kernel_rfl) hrd ?_
  refine dt 19 41 (.pointer (some ⟨gB, 0, none⟩)) (fun v hv _ => by kernel_rfl) hrd ?_
  refine dw_ready [20] (by kernel_rfl) (by simp) ?_
  refine ar_call 20 42 10 #[.pointer (some ⟨gB, 0, none⟩)] rfl (fun _ => by kernel_rfl) (fun _ => by kernel_rfl) (R := fun u w' => u = .int .i64 1 ∧ Bl (u9) w') ((blen_any hU).mono (fun e w' ⟨u, e1, e2, e3⟩ => ⟨u, e1, e2, e3⟩)) (fun u w' h => hrd.go h.2) ?_ ar_nil
  rintro _ u10 ⟨rfl, hbu10⟩
  replace hB := hB.go hbu10
  replace hrd := hrd.go hbu10
  replace hU := hU.go hbu10
  refine dt 21 43 (.bool true) (fun v hv _ => by kernel_rfl) hrd ?_
  refine dt 22 44 (.bool true) (fun v hv _ => by kernel_rfl) hrd ?_
  refine dt 23 0 (.bool true) (fun v hv _ => by kernel_rfl) hrd ?_
  refine dw_done (by kernel_rfl) ?_
  refine nw_then ?_
  refine cw_ret ?_
  exact nw_ret_body (.bool true) (fun _ => by kernel_rfl) ⟨_, rfl, rfl, hB⟩
end Go.Proofs.Ytdkpilgelgjieaa
/- The statement BulkRefused: no list that is not in order is taken. -/
namespace Go.Proofs.Ytdkpilgelgjieaa
open Go.RowKit
open Tr
set_option linter.unusedVariables false
set_option maxRecDepth 100000
theorem addZ {lk : Option (List Int)} {k x : List Int} (h : addE lk k x = 0) : (k.length ≤ 32 ∧ 0 < x.length ∧ x.length ≤ 256) ∧ ∀ k0, lk = some k0 → Ni.lessP k0 k = true := by
  unfold addE at h
  by_cases h1 : k.length ≤ 32
  · rw [if_pos h1] at h
    by_cases h2 : 0 < x.length ∧ x.length ≤ 256
    · rw [if_pos h2] at h
      refine ⟨⟨h1, h2⟩, fun k0 e => ?_⟩
      subst e
      simp only at h
      cases hq : Ni.lessP k0 k with
      | true => rfl
      | false => rw [hq] at h; simp at h
    · rw [if_neg h2] at h; cases h
  · rw [if_neg h1] at h; cases h
def Vld (l : PList) : Prop := ∀ e ∈ l, e.1.length ≤ 32 ∧ 0 < e.2.length ∧ e.2.length ≤ 256
theorem runE_zero : ∀ (l : PList) (lk : Option (List Int)), runE lk l = 0 → Vld l ∧ l.Pairwise (fun e f => Ni.lessP e.1 f.1 = true) ∧ ∀ k0, lk = some k0 → ∀ e ∈ l, Ni.lessP k0 e.1 = true
  | [], lk, _ => ⟨(fun e he => by simp at he), List.Pairwise.nil, fun _ _ e he => by simp at he⟩
  | (k, x) :: r, lk, h => by
    simp only [runE] at h
    by_cases he : addE lk k x = 0
    · rw [if_pos he] at h
      obtain ⟨h1, h2, h3⟩ := runE_zero r (some k) h
      obtain ⟨a1, a2⟩ := addZ he
      refine ⟨fun e hm => ?_, List.pairwise_cons.2 ⟨fun f hf => h3 k rfl f hf, h2⟩, fun k0 ek e hm => ?_⟩
      · rcases List.mem_cons.1 hm with q | q
        · rw [q]; exact a1
        · exact h1 e q
      · rcases List.mem_cons.1 hm with q | q
        · rw [q]; exact a2 k0 ek
        · exact less_trans _ _ _ (a2 k0 ek) (h3 k rfl e q)
    · rw [if_neg he] at h; exact absurd h he
theorem runE_val : ∀ (l : PList) (lk : Option (List Int)), Vld l → runE lk l = 0 ∨ runE lk l = 80
  | [], lk, _ => .inl rfl
  | (k, x) :: r, lk, h => by
    have hk := h (k, x) (by simp)
    simp only [runE]
    have ha : addE lk k x = 0 ∨ addE lk k x = 80 := by
      unfold addE
      rw [if_pos hk.1, if_pos hk.2]
      cases lk with
      | none => exact .inl rfl
      | some k0 => simp only; split; exact .inl rfl; exact .inr rfl
    rcases ha with q | q
    · rw [if_pos q]; exact runE_val r (some k) (fun e he => h e (List.mem_cons_of_mem _ he))
    · rw [if_neg (by omega)]; exact .inr q
theorem runE_no {m : PList} (hv : Vld m) {i k : Nat} {e f : List Int × List Int} (hik : i < k) (hi : m[i]? = some e) (hk : m[k]? = some f) (hn : Ni.lessP e.1 f.1 = false) : runE none m = 80 := by
  rcases runE_val m none hv with q | q
  · have hp := (runE_zero m none q).2.1
    obtain ⟨hi1, hi2⟩ := List.getElem?_eq_some_iff.1 hi
    obtain ⟨hk1, hk2⟩ := List.getElem?_eq_some_iff.1 hk
    have := List.pairwise_iff_getElem.1 hp i k hi1 hk1 hik
    rw [hi2, hk2, hn] at this
    cases this
  · exact q
theorem Vld.set {l : PList} (h : Vld l) {j : Nat} {e : List Int × List Int} (he : e ∈ l) : Vld (l.set j e) := fun q hq => by
  rcases List.mem_or_eq_of_mem_set hq with z | z
  · exact h q z
  · rw [z]; exact h e he
/-- A row of pairs of one's own, in a block. -/
structure Mr (w : World) (g cap : Nat) (vs : List (Value × Value)) (l : PList) : Prop where
  row : ∃ cur : Array Value, w.heap[g]? = some (.cells cur 31 (0, 0)) ∧ cur.size = cap * 2
  nc : vs.length ≤ cap
  ll : l.length = vs.length
  rng : ∀ (j : Nat) (p : Value × Value), vs[j]? = some p → w.rangeAt g (0 + j * 2) [p.1, p.2]
  gd : ∀ (j : Nat) (p : Value × Value) (e : List Int × List Int), vs[j]? = some p → l[j]? = some e → Gp2 (fun b => b ≠ g) w p e
theorem Gp2.keep {K L : Nat → Prop} {w w' : World} {p : Value × Value} {e : List Int × List Int} (h : Gp2 K w p e) (hk : Keep K L w w') : Gp2 L w' p e := by
  obtain ⟨a, n, c, a', n', c', h1, h2, h3, h4⟩ := h
  exact ⟨a, n, c, a', n', c', h1, h2, h3.keep hk, h4.keep hk⟩
theorem Mr.go {w w' : World} {g cap : Nat} {vs : List (Value × Value)} {l : PList} (h : Mr w g cap vs l) (hb : Bl w w') : Mr w' g cap vs l := by
  obtain ⟨cur, h1, h2⟩ := h.row
  exact ⟨⟨cur, (Below.block hb g (lt_of_get h1)).trans h1, h2⟩, h.nc, h.ll, fun j p hp => rng_go8 (h.rng j p hp) hb, fun j p e h3 h4 => (h.gd j p e h3 h4).keep (keep_bl hb)⟩
theorem Mr.drew {w : World} {g cap : Nat} {vs : List (Value × Value)} {l : PList} (h : Mr w g cap vs l) : Mr w.drew g cap vs l := h.go (Below.refl _ _).drew
theorem Mr.there {w : World} {g cap : Nat} {vs : List (Value × Value)} {l : PList} (h : Mr w g cap vs l) {j : Nat} (hj : j < vs.length) : w.there g (0 + j * 2) 2 := by
  obtain ⟨cur, h1, h2⟩ := h.row
  have hnc := h.nc
  intro m hm
  refine ⟨?_, frozen_of_row _ _ _ _ _ h1⟩
  rw [cell_of_row _ _ _ _ _ _ h1, Array.getElem?_eq_getElem (by omega)]
  rfl
theorem Mr.set {w : World} {g cap : Nat} {vs : List (Value × Value)} {l : PList} (h : Mr w g cap vs l) {j : Nat} (hj : j < vs.length) {p : Value × Value} {e : List Int × List Int} (hg : Gp2 (fun b => b ≠ g) w p e) : Mr (w.setCells g (0 + j * 2) [p.1, p.2]) g cap (vs.set j p) (l.set j e) := by
  have hst := St.of w g (0 + j * 2) [p.1, p.2]
  have hth := h.there hj
  obtain ⟨cur, h1, h2⟩ := h.row
  obtain ⟨cur', h3, h4⟩ := sc_row g 31 [p.1, p.2] (0 + j * 2) w cur h1
  have hk : Keep (fun b => b ≠ g) (fun b => b ≠ g) w (w.setCells g (0 + j * 2) [p.1, p.2]) := fun b hb _ => ⟨hst.other b hb, hb⟩
  refine ⟨⟨cur', h3, h4.trans h2⟩, by rw [List.length_set]; exact h.nc, by rw [List.length_set, List.length_set]; exact h.ll, fun q r hr => ?_, fun q r f hr hf => ?_⟩
  · by_cases e1 : q = j
    · subst e1
      rw [List.getElem?_set_self hj] at hr
      cases hr
      exact World.rangeAt_setCells_same w g (0 + q * 2) [p.1, p.2] hth
    · rw [List.getElem?_set_ne (fun z => e1 z.symm)] at hr
      refine World.rangeAt_setCells_apart (h.rng q r hr) g (0 + j * 2) [p.1, p.2] (.inr ?_)
      simp only [List.length_cons, List.length_nil]
      omega
  · by_cases e1 : q = j
    · subst e1
      rw [List.getElem?_set_self hj] at hr
      rw [List.getElem?_set_self (by rw [h.ll]; exact hj)] at hf
      cases hr; cases hf
      exact hg.keep hk
    · rw [List.getElem?_set_ne (fun z => e1 z.symm)] at hr hf
      exact (h.gd q r f hr hf).keep hk
theorem Mr.pat {w : World} {g cap : Nat} {vs : List (Value × Value)} {l : PList} (h : Mr w g cap vs l) : PAt (fun _ => True) w (some ⟨g, 0, none⟩) vs.length cap vs l := by
  refine ⟨rfl, h.ll, h.nc, (fun e => by cases e), fun j u hj => ⟨g, 0, rfl, ?_⟩, fun j p e h1 h2 => (h.gd j p e h1 h2).mono (fun _ _ => trivial), fun _ _ _ => trivial⟩
  have hlt : j < (flatP vs).length := (List.getElem?_eq_some_iff.1 hj).1
  rw [flatP_len] at hlt
  obtain ⟨p, hp⟩ : ∃ p, vs[j / 2]? = some p := ⟨_, List.getElem?_eq_getElem (by omega)⟩
  obtain ⟨f1, f2⟩ := flatP_get vs (j / 2) p hp
  have hr := h.rng (j / 2) p hp
  rcases Nat.mod_two_eq_zero_or_one j with z | z
  · rw [show j / 2 * 2 = j from by omega, hj] at f1
    have := hr 0 p.1 rfl
    rw [show 0 + j / 2 * 2 + 0 = 0 + j from by omega] at this
    rw [this, f1]
  · rw [show j / 2 * 2 + 1 = j from by omega, hj] at f2
    have := hr 1 p.2 rfl
    rw [show 0 + j / 2 * 2 + 1 = 0 + j from by omega] at this
    rw [this, f2]
theorem ol_storeP {ρ : Operand → Value} {w : World} {o : Oper} (x z : Operand) {g off : Nat} {a b : Value} (h : w.there g off 2) (h1 : a.oneCell' = true) (h2 : b.oneCell' = true) (ho : o.op = .store 31 x z) (hx : ρ x = .pointer (some ⟨g, off, none⟩)) (hz : ρ z = .agg #[a, b]) : (execOp ρ o).run Try.prog w = .ok .skip (w.setCells g off [a, b]) := by
  have := run_storeAt_mid (P := Try.prog) w g off 31 #[a, b] h (by kernel_rfl) (by simp [h1, h2])
  unfold execOp
  simp only [ho, hx, hz, Sem.run_bind, this, Result.andThen_ok, Sem.run_pure]
theorem OwnL.mr {w : World} {base : Nat} {v : Value} {l : PList} (h : OwnL (fun _ => True) w base v l) (hp : 0 < l.length) : ∃ g cap vs, v = .slice (some ⟨g, 0, none⟩) l.length cap ∧ base ≤ g ∧ Mr w g cap vs l := by
  obtain ⟨hX, vs, h1, ⟨h2, h3⟩, h4⟩ := h
  rcases h3 with ⟨rfl, h5⟩ | ⟨g, cap, cur, rfl, hbg, hg, hc1, hc2, hc3, hc4⟩
  · omega
  refine ⟨g, cap, vs, rfl, hbg, ⟨⟨cur, hg, hc3⟩, by rw [h1]; exact hc1, h1.symm, fun j p hj m u hm => ?_, fun j p e q1 q2 => (h4 j p e q1 q2).mono (fun b hb => fun z => hb.1 (by rw [z]; rfl))⟩⟩
  obtain ⟨f1, f2⟩ := flatP_get vs j p hj
  have hcell : ∀ q u, (flatP vs)[q]? = some u → w.cell? ⟨g, q, none⟩ = some u := by
    intro q u hq
    have hlt : q < (flatP vs).length := (List.getElem?_eq_some_iff.1 hq).1
    rw [flatP_len, h1] at hlt
    rw [cell_of_row _ _ _ _ _ _ hg, ← Array.getElem?_toList]
    rw [← hc4, List.getElem?_take_of_lt (by omega)] at hq
    exact hq
  match m, hm with
  | 0, hm => simp at hm; subst hm; rw [show 0 + j * 2 + 0 = j * 2 from by omega]; exact hcell _ _ f1
  | 1, hm => simp at hm; subst hm; rw [show 0 + j * 2 + 1 = j * 2 + 1 from by omega]; exact hcell _ _ f2
  | m + 2, hm => simp at hm
end Go.Proofs.Ytdkpilgelgjieaa
/- The statement BulkRefused: no list that is not in order is taken. -/
namespace Go.Proofs.Ytdkpilgelgjieaa
open Go.RowKit
open Tr
set_option linter.unusedVariables false
set_option maxRecDepth 100000
theorem Vld.setv {l : PList} (h : Vld l) {j : Nat} {e : List Int × List Int} (he : e.1.length ≤ 32 ∧ 0 < e.2.length ∧ e.2.length ≤ 256) : Vld (l.set j e) := fun q hq => by
  rcases List.mem_or_eq_of_mem_set hq with z | z
  · exact h q z
  · rw [z]; exact he
theorem Bl.st {w v v' : World} {g : Nat} (h : Bl w v) (hs : St v v' g) (hg : w.heap.size ≤ g) : Bl w v' := ⟨hs.os.trans (Below.os h), hs.tape.trans (Below.tape h), hs.output.trans (Below.output h), by rw [hs.size]; exact h.size, fun k hk => (hs.other k (by omega)).trans (Below.block h k hk)⟩
theorem len_d (l : PList) : (if runE none l = 0 then rootP (runT no l) else z32).length = 32 := by
  split
  · exact rootP_len8 _
  · rfl
set_option maxHeartbeats 8000000 in
theorem refused_any {K : Nat → Prop} (a : Option Addr) (n c : Nat) (vs : List (Value × Value)) (l : PList) (i k : Int) (w : World) (hl : PAt K w a n c vs l) (hn : n ≤ 2932031007317) (hi : -9223372036854775808 ≤ i ∧ i ≤ 9223372036854775807) (hk : -9223372036854775808 ≤ k ∧ k ≤ 9223372036854775807) :
    Calls Try.prog 3 #[.slice a n c, .int .i64 i, .int .i64 k] w fun e w' => e = .returned (.bool true) ∧ Bl w w' := by
  have hB := Bl.refl w
  have hll := hl.ll
  refine cw_enter Try.func3 rfl 79 rfl ?_
  show CW _ _ _ _ _ _ _ [(0, .slice a n c), (1, .int .i64 i), (2, .int .i64 k)] _
  refine cw_seq ?_
  refine cw_region ?_
  refine rp 6 (.bool false) ?_
  refine rw_nil ?_
  refine nw_then ?_
  refine cw_seq ?_
  refine cw_region ?_
  refine rp 15 (.slice a n c) ?_
  obtain ⟨e0, he0⟩ : ∃ e, runE none l = e := ⟨_, rfl⟩
  have hdl0 := len_d l
  obtain ⟨d0, hd0⟩ : ∃ d, (if runE none l = 0 then rootP (runT no l) else z32) = d := ⟨_, rfl⟩
  rw [hd0] at hdl0
  refine rw_call 16 4 #[.slice a n c] (fun _ => by kernel_rfl) (fun _ => by kernel_rfl) (R := fun u w' => u = .tuple #[.agg (B8 d0), .int .i64 e0] ∧ Bl (w) w') (((bulkroot_any hl (by omega)).mono (fun e w' ⟨u, e1, e2, e3⟩ => ⟨u, e1, by rw [e2, hd0, he0], e3⟩))) ?_
  rintro _ u0 ⟨rfl, hb0⟩
  replace hB := hB.go hb0
  refine rp 14 (.tuple #[.agg (B8 d0), .int .i64 e0]) ?_
  refine rp 17 (.agg (B8 d0)) ?_
  refine rp 18 (.int .i64 e0) ?_
  have hB_0 := hB
  have hz0 := hB.size
  refine rw_new 7 (B8 z32) 24 (fun _ => by kernel_rfl) (fun _ => by kernel_rfl) ?_
  intro wd0 gd0 hnd0
  replace hB := hB.go hnd0.below
  refine rw_put gd0 (B8 d0) (fun _ => by kernel_rfl) (fun _ => ol_store 24 _ _ _ _ _ _ rfl (by kernel_rfl) (by kernel_rfl) hnd0.row (infoD' hdl0) (z8_size hdl0) (B8_one _)) ?_
  intro we0 hpe0
  have hne0 := hnd0.put hpe0
  replace hB := hB_0.go hne0.below
  refine rp 8 (.int .i64 e0) ?_
  refine rw_nil ?_
  refine nw_then ?_
  refine cw_seq ?_
  refine cw_seq ?_
  by_cases h1 : e0 = 0
  case neg =>
    refine cw_region ?_
    refine rp 19 (.int .i64 e0) ?_
    refine rv 20 (.bool true) (fun _ => ol_conv (v := .bool (!((e0 : Int) == (0 : Int)))) (by kernel_rfl) (congrArg Value.bool (by simp [h1]))) ?_
    refine rp 21 (.bool true) ?_
    refine rw_off 22 (fun _ => by kernel_rfl) ?_
    refine rw_off 23 (fun _ => by kernel_rfl) ?_
    refine rp 24 (.bool true) ?_
    refine rp 25 (.bool true) ?_
    refine rw_off 26 (fun _ => by kernel_rfl) ?_
    refine rw_off 27 (fun _ => by kernel_rfl) ?_
    refine rw_off 28 (fun _ => by kernel_rfl) ?_
    refine rp 29 (.bool true) ?_
    refine rp 30 (.bool true) ?_
    refine rw_off 31 (fun _ => by kernel_rfl) ?_
    refine rw_off 32 (fun _ => by kernel_rfl) ?_
    refine rw_off 33 (fun _ => by kernel_rfl) ?_
    refine rw_off 34 (fun _ => by kernel_rfl) ?_
    refine rp 35 (.bool true) ?_
    refine rw_nil ?_
    refine nw_then ?_
    refine cw_cond_t (fun _ => by kernel_rfl) ?_
    refine cw_seq ?_
    refine cw_region ?_
    refine rw_call 36 5 #[] (fun _ => by kernel_rfl) (fun _ => by kernel_rfl) (R := fun u w' => u = .bool true ∧ Bl (we0) w') (alive_any) ?_
    rintro _ u1 ⟨rfl, hb2⟩
    replace hB := hB.go hb2
    refine rp 6 (.bool true) ?_
    refine rw_nil ?_
    refine nw_then ?_
    refine cw_ret ?_
    refine nw_ret_then ?_
    exact nw_ret_body (.bool true) (fun _ => by kernel_rfl) ⟨rfl, hB⟩
  by_cases h2 : 0 ≤ i
  case neg =>
    refine cw_region ?_
    refine rp 19 (.int .i64 e0) ?_
    refine rv 20 (.bool false) (fun _ => ol_conv (v := .bool (!((e0 : Int) == (0 : Int)))) (by kernel_rfl) (congrArg Value.bool (by simp [h1]))) ?_
    refine rp 21 (.bool false) ?_
    refine rp 22 (.int .i64 i) ?_
    refine rv 23 (.bool true) (fun _ => ol_conv (v := .bool (decide ((i : Int) < (0 : Int)))) (by kernel_rfl) (congrArg Value.bool (decide_eq_true (by omega)))) ?_
    refine rp 24 (.bool true) ?_
    refine rp 25 (.bool true) ?_
    refine rw_off 26 (fun _ => by kernel_rfl) ?_
    refine rw_off 27 (fun _ => by kernel_rfl) ?_
    refine rw_off 28 (fun _ => by kernel_rfl) ?_
    refine rp 29 (.bool true) ?_
    refine rp 30 (.bool true) ?_
    refine rw_off 31 (fun _ => by kernel_rfl) ?_
    refine rw_off 32 (fun _ => by kernel_rfl) ?_
    refine rw_off 33 (fun _ => by kernel_rfl) ?_
    refine rw_off 34 (fun _ => by kernel_rfl) ?_
    refine rp 35 (.bool true) ?_
    refine rw_nil ?_
    refine nw_then ?_
    refine cw_cond_t (fun _ => by kernel_rfl) ?_
    refine cw_seq ?_
    refine cw_region ?_
    refine rw_call 36 5 #[] (fun _ => by kernel_rfl) (fun _ => by kernel_rfl) (R := fun u w' => u = .bool true ∧ Bl (we0) w') (alive_any) ?_
    rintro _ u3 ⟨rfl, hb4⟩
    replace hB := hB.go hb4
    refine rp 6 (.bool true) ?_
    refine rw_nil ?_
    refine nw_then ?_
    refine cw_ret ?_
    refine nw_ret_then ?_
    exact nw_ret_body (.bool true) (fun _ => by kernel_rfl) ⟨rfl, hB⟩
  by_cases h3 : i < k
  case neg =>
    refine cw_region ?_
    refine rp 19 (.int .i64 e0) ?_
    refine rv 20 (.bool false) (fun _ => ol_conv (v := .bool (!((e0 : Int) == (0 : Int)))) (by kernel_rfl) (congrArg Value.bool (by simp [h1]))) ?_
    refine rp 21 (.bool false) ?_
    refine rp 22 (.int .i64 i) ?_
    refine rv 23 (.bool false) (fun _ => ol_conv (v := .bool (decide ((i : Int) < (0 : Int)))) (by kernel_rfl) (congrArg Value.bool (decide_eq_false (by omega)))) ?_
    refine rp 24 (.bool false) ?_
    refine rp 25 (.bool false) ?_
    refine rp 26 (.int .i64 k) ?_
    refine rp 27 (.int .i64 i) ?_
    refine rv 28 (.bool true) (fun _ => ol_conv (v := .bool (decide ((k : Int) ≤ (i : Int)))) (by kernel_rfl) (congrArg Value.bool (decide_eq_true (by omega)))) ?_
    refine rp 29 (.bool true) ?_
    refine rp 30 (.bool true) ?_
    refine rw_off 31 (fun _ => by kernel_rfl) ?_
    refine rw_off 32 (fun _ => by kernel_rfl) ?_
    refine rw_off 33 (fun _ => by kernel_rfl) ?_
    refine rw_off 34 (fun _ => by kernel_rfl) ?_
    refine rp 35 (.bool true) ?_
    refine rw_nil ?_
    refine nw_then ?_
    refine cw_cond_t (fun _ => by kernel_rfl) ?_
    refine cw_seq ?_
    refine cw_region ?_
    refine rw_call 36 5 #[] (fun _ => by kernel_rfl) (fun _ => by kernel_rfl) (R := fun u w' => u = .bool true ∧ Bl (we0) w') (alive_any) ?_
    rintro _ u5 ⟨rfl, hb6⟩
    replace hB := hB.go hb6
    refine rp 6 (.bool true) ?_
    refine rw_nil ?_
    refine nw_then ?_
    refine cw_ret ?_
    refine nw_ret_then ?_
    exact nw_ret_body (.bool true) (fun _ => by kernel_rfl) ⟨rfl, hB⟩
  by_cases h4 : k < n
  case neg =>
    refine cw_region ?_
    refine rp 19 (.int .i64 e0) ?_
    refine rv 20 (.bool false) (fun _ => ol_conv (v := .bool (!((e0 : Int) == (0 : Int)))) (by kernel_rfl) (congrArg Value.bool (by simp [h1]))) ?_
    refine rp 21 (.bool false) ?_
    refine rp 22 (.int .i64 i) ?_
    refine rv 23 (.bool false) (fun _ => ol_conv (v := .bool (decide ((i : Int) < (0 : Int)))) (by kernel_rfl) (congrArg Value.bool (decide_eq_false (by omega)))) ?_
    refine rp 24 (.bool false) ?_
    refine rp 25 (.bool false) ?_
    refine rp 26 (.int .i64 k) ?_
    refine rp 27 (.int .i64 i) ?_
    refine rv 28 (.bool false) (fun _ => ol_conv (v := .bool (decide ((k : Int) ≤ (i : Int)))) (by kernel_rfl) (congrArg Value.bool (decide_eq_false (by omega)))) ?_
    refine rp 29 (.bool false) ?_
    refine rp 30 (.bool false) ?_
    refine rp 31 (.int .i64 k) ?_
    refine rp 32 (.slice a n c) ?_
    refine rp 33 (.int .i64 n) ?_
    refine rv 34 (.bool true) (fun _ => ol_conv (v := .bool (decide ((k : Int) ≥ (n : Int)))) (by kernel_rfl) (congrArg Value.bool (decide_eq_true (by omega)))) ?_
    refine rp 35 (.bool true) ?_
    refine rw_nil ?_
    refine nw_then ?_
    refine cw_cond_t (fun _ => by kernel_rfl) ?_
    refine cw_seq ?_
    refine cw_region ?_
    refine rw_call 36 5 #[] (fun _ => by kernel_rfl) (fun _ => by kernel_rfl) (R := fun u w' => u = .bool true ∧ Bl (we0) w') (alive_any) ?_
    rintro _ u7 ⟨rfl, hb8⟩
    replace hB := hB.go hb8
    refine rp 6 (.bool true) ?_
    refine rw_nil ?_
    refine nw_then ?_
    refine cw_ret ?_
    refine nw_ret_then ?_
    exact nw_ret_body (.bool true) (fun _ => by kernel_rfl) ⟨rfl, hB⟩
  obtain ⟨iN, rfl⟩ : ∃ q : Nat, i = (q : Int) := ⟨i.toNat, by omega⟩
  obtain ⟨kN, rfl⟩ : ∃ q : Nat, k = (q : Int) := ⟨k.toNat, by omega⟩
  show CW _ _ _ _ _ _ _ [(8, .int .i64 e0), (7, .pointer (some ⟨gd0, 0, none⟩)), (18, .int .i64 e0), (17, .agg (B8 d0)), (14, .tuple #[.agg (B8 d0), .int .i64 e0]), (16, .tuple #[.agg (B8 d0), .int .i64 e0]), (15, .slice a n c), (6, .bool false), (0, .slice a n c), (1, .int .i64 ((iN : Nat) : Int)), (2, .int .i64 ((kN : Nat) : Int))] _
  refine cw_region ?_
  refine rp 19 (.int .i64 e0) ?_
  refine rv 20 (.bool false) (fun _ => ol_conv (v := .bool (!((e0 : Int) == (0 : Int)))) (by kernel_rfl) (congrArg Value.bool (by simp [h1]))) ?_
  refine rp 21 (.bool false) ?_
  refine rp 22 (.int .i64 ((iN : Nat) : Int)) ?_
  refine rv 23 (.bool false) (fun _ => ol_conv (v := .bool (decide (((iN : Nat) : Int) < (0 : Int)))) (by kernel_rfl) (congrArg Value.bool (decide_eq_false (by omega)))) ?_
  refine rp 24 (.bool false) ?_
  refine rp 25 (.bool false) ?_
  refine rp 26 (.int .i64 ((kN : Nat) : Int)) ?_
  refine rp 27 (.int .i64 ((iN : Nat) : Int)) ?_
  refine rv 28 (.bool false) (fun _ => ol_conv (v := .bool (decide (((kN : Nat) : Int) ≤ ((iN : Nat) : Int)))) (by kernel_rfl) (congrArg Value.bool (decide_eq_false (by omega)))) ?_
  refine rp 29 (.bool false) ?_
  refine rp 30 (.bool false) ?_
  refine rp 31 (.int .i64 ((kN : Nat) : Int)) ?_
  refine rp 32 (.slice a n c) ?_
  refine rp 33 (.int .i64 n) ?_
  refine rv 34 (.bool false) (fun _ => ol_conv (v := .bool (decide (((kN : Nat) : Int) ≥ (n : Int)))) (by kernel_rfl) (congrArg Value.bool (decide_eq_false (by omega)))) ?_
  refine rp 35 (.bool false) ?_
  refine rw_nil ?_
  refine nw_then ?_
  refine cw_cond_f (fun _ => by kernel_rfl) ?_
  refine cw_skip ?_
  refine nw_then ?_
  refine cw_seq ?_
  refine cw_region ?_
  refine rp 37 (.slice a n c) ?_
  subst h1
  obtain ⟨hvl, hpw, _⟩ := runE_zero l none he0
  have hOw : OwnL (fun _ => True) we0 we0.heap.size (.slice none 0 0) [] := ⟨fun _ _ => trivial, [], rfl, ⟨rfl, .inl ⟨rfl, rfl⟩⟩, fun j p e q => by simp at q⟩
  obtain ⟨V4, w4, hr4, hO4, hb4⟩ := appP hOw (hl.go hB) (fun b _ => ⟨by simp [Value.ownBlock], trivial⟩) (by simp; omega) (Nat.le_refl _)
  rw [List.nil_append] at hO4
  obtain ⟨g, cap, vm, eV, hg4, hM⟩ := hO4.mr (by omega)
  subst eV
  have hgw : w.heap.size ≤ g := Nat.le_trans hB.size hg4
  refine rw_v 38 (.slice (some ⟨g, 0, none⟩) l.length cap) (fun _ => by kernel_rfl) (fun _ => ol_app2 hr4 _ _ rfl (by kernel_rfl) (by kernel_rfl)) ?_
  replace hB := hB.go hb4
  have hml := hM.ll
  refine rp 9 (.slice (some ⟨g, 0, none⟩) l.length cap) ?_
  refine rw_nil ?_
  refine nw_then ?_
  refine cw_seq ?_
  obtain ⟨ei, hei⟩ : ∃ e, l[iN]? = some e := ⟨_, List.getElem?_eq_getElem (by omega)⟩
  obtain ⟨ek, hek⟩ : ∃ e, l[kN]? = some e := ⟨_, List.getElem?_eq_getElem (by omega)⟩
  obtain ⟨pi, hpi⟩ : ∃ p, vm[iN]? = some p := ⟨_, List.getElem?_eq_getElem (by omega)⟩
  obtain ⟨pk, hpk⟩ : ∃ p, vm[kN]? = some p := ⟨_, List.getElem?_eq_getElem (by omega)⟩
  obtain ⟨a1, n1, c1, a2, n2, c2, e1, e2, _, _⟩ := hM.gd iN pi ei hpi hei
  obtain ⟨a3, n3, c3, a4, n4, c4, e3, e4, _, _⟩ := hM.gd kN pk ek hpk hek
  obtain ⟨pi1, pi2⟩ := pi
  obtain ⟨pk1, pk2⟩ := pk
  simp only at e1 e2 e3 e4
  subst e1 e2 e3 e4
  refine cw_cut (fun E v5 => E = [(9, .slice (some ⟨g, 0, none⟩) l.length cap), (1, .int .i64 ((iN : Nat) : Int)), (2, .int .i64 ((kN : Nat) : Int))] ∧ ∃ vm m, Mr v5 g cap vm m ∧ Bl w v5 ∧ (Vld m ∧ m.length = l.length) ∧ m[iN]? = some ek ∧ m[kN]? = some ei) ?_ ?_
  · skip
    refine cw_draw (fun _ => True) (by kernel_rfl) (trivial) ?_
    replace hB := hB.drew
    replace hM := hM.drew
    refine dt 0 39 (.slice (some ⟨g, 0, none⟩) l.length cap) (fun v hv _ => by kernel_rfl) trivial ?_
    refine dt 1 40 (.int .i64 ((iN : Nat) : Int)) (fun v hv _ => by kernel_rfl) trivial ?_
    refine dt 2 41 (.slice (some ⟨g, 0, none⟩) l.length cap) (fun v hv _ => by kernel_rfl) trivial ?_
    refine dt 3 42 (.int .i64 ((kN : Nat) : Int)) (fun v hv _ => by kernel_rfl) trivial ?_
    refine dt 4 43 (.slice (some ⟨g, 0, none⟩) l.length cap) (fun v hv _ => by kernel_rfl) trivial ?_
    refine dt 5 44 (.int .i64 ((kN : Nat) : Int)) (fun v hv _ => by kernel_rfl) trivial ?_
    refine dt 6 45 (.pointer (some ⟨g, 0 + kN * 2, none⟩)) (fun v hv _ => ol_index 22 _ _ g 0 kN l.length cap 2 31 rfl (by kernel_rfl) (by kernel_rfl) (by omega) Try.underlying22 (by kernel_rfl)) trivial ?_
    refine dt 8 47 (.slice (some ⟨g, 0, none⟩) l.length cap) (fun v hv _ => by kernel_rfl) trivial ?_
    refine dt 9 48 (.int .i64 ((iN : Nat) : Int)) (fun v hv _ => by kernel_rfl) trivial ?_
    refine dt 10 49 (.pointer (some ⟨g, 0 + iN * 2, none⟩)) (fun v hv _ => ol_index 22 _ _ g 0 iN l.length cap 2 31 rfl (by kernel_rfl) (by kernel_rfl) (by omega) Try.underlying22 (by kernel_rfl)) trivial ?_
    refine dw_ready [7, 11] (by kernel_rfl) (by simp) ?_
    refine ar_v 7 46 (.agg #[.slice a3 n3 c3, .slice a4 n4 c4]) rfl (fun _ => by kernel_rfl) (fun _ => ol_mid 31 _ g (0 + kN * 2) [.slice a3 n3 c3, .slice a4 n4 c4] _ rfl (by kernel_rfl) (hM.rng kN _ hpk) Try.underlying31 rfl (by kernel_rfl)) trivial ?_ ?_
    · skip
      refine dw_ready [11] (by kernel_rfl) (by simp) ?_
      refine ar_v 11 50 (.agg #[.slice a1 n1 c1, .slice a2 n2 c2]) rfl (fun _ => by kernel_rfl) (fun _ => ol_mid 31 _ g (0 + iN * 2) [.slice a1 n1 c1, .slice a2 n2 c2] _ rfl (by kernel_rfl) (hM.rng iN _ hpi) Try.underlying31 rfl (by kernel_rfl)) trivial ?_ ar_nil
      refine dt 12 51 (.pointer (some ⟨g, 0 + iN * 2, none⟩)) (fun v hv _ => ol_index 22 _ _ g 0 iN l.length cap 2 31 rfl (by kernel_rfl) (by kernel_rfl) (by omega) Try.underlying22 (by kernel_rfl)) trivial ?_
      refine dw_ready [13] (by kernel_rfl) (by simp) ?_
      have hM1 := hM.set (j := iN) (by omega) (hM.gd kN _ ek hpk hek)
      have hth := hM.there (j := iN) (by omega)
      have hst := St.of w4.drew g (0 + iN * 2) [.slice a3 n3 c3, .slice a4 n4 c4]
      refine ar_s 13 rfl (fun _ => by kernel_rfl) (fun _ => ol_storeP _ _ (a := .slice a3 n3 c3) (b := .slice a4 n4 c4) hth rfl rfl rfl (by kernel_rfl) (by kernel_rfl)) trivial ?_ ar_nil
      have hg1 := (hM.gd iN _ ei hpi hei).keep (L := fun b => b ≠ g) (fun b hb _ => ⟨hst.other b hb, hb⟩)
      replace hB := hB.st hst hgw
      generalize w4.drew.setCells g (0 + iN * 2) [.slice a3 n3 c3, .slice a4 n4 c4] = wS1 at hM1 hB hst hg1 ⊢
      refine dt 14 52 (.pointer (some ⟨g, 0 + kN * 2, none⟩)) (fun v hv _ => ol_index 22 _ _ g 0 kN l.length cap 2 31 rfl (by kernel_rfl) (by kernel_rfl) (by omega) Try.underlying22 (by kernel_rfl)) trivial ?_
      refine dw_ready [15] (by kernel_rfl) (by simp) ?_
      have hM2 := hM1.set (j := kN) (by rw [List.length_set]; omega) (hg1)
      have hth := hM1.there (j := kN) (by rw [List.length_set]; omega)
      have hst := St.of wS1 g (0 + kN * 2) [.slice a1 n1 c1, .slice a2 n2 c2]
      refine ar_s 15 rfl (fun _ => by kernel_rfl) (fun _ => ol_storeP _ _ (a := .slice a1 n1 c1) (b := .slice a2 n2 c2) hth rfl rfl rfl (by kernel_rfl) (by kernel_rfl)) trivial ?_ ar_nil
      replace hB := hB.st hst hgw
      generalize wS1.setCells g (0 + kN * 2) [.slice a1 n1 c1, .slice a2 n2 c2] = wS2 at hM2 hB hst ⊢
      refine dw_done (by kernel_rfl) ?_
      exact nw_cut [(9, .slice (some ⟨g, 0, none⟩) l.length cap), (1, .int .i64 ((iN : Nat) : Int)), (2, .int .i64 ((kN : Nat) : Int))] (by exact ⟨fun _ => by kernel_rfl, ⟨fun _ => by kernel_rfl, ⟨fun _ => by kernel_rfl, trivial⟩⟩⟩) ⟨rfl, _, _, hM2, hB, ⟨(hvl.setv (hvl _ (List.mem_of_getElem? hek))).setv (hvl _ (List.mem_of_getElem? hei)), by rw [List.length_set, List.length_set]⟩, by rw [List.getElem?_set_ne (by omega), List.getElem?_set_self (by omega)], by rw [List.getElem?_set_self (by rw [List.length_set]; omega)]⟩
    refine ar_v 11 50 (.agg #[.slice a1 n1 c1, .slice a2 n2 c2]) rfl (fun _ => by kernel_rfl) (fun _ => ol_mid 31 _ g (0 + iN * 2) [.slice a1 n1 c1, .slice a2 n2 c2] _ rfl (by kernel_rfl) (hM.rng iN _ hpi) Try.underlying31 rfl (by kernel_rfl)) trivial ?_ ar_nil
    refine dw_ready [7] (by kernel_rfl) (by simp) ?_
    refine ar_v 7 46 (.agg #[.slice a3 n3 c3, .slice a4 n4 c4]) rfl (fun _ => by kernel_rfl) (fun _ => ol_mid 31 _ g (0 + kN * 2) [.slice a3 n3 c3, .slice a4 n4 c4] _ rfl (by kernel_rfl) (hM.rng kN _ hpk) Try.underlying31 rfl (by kernel_rfl)) trivial ?_ ar_nil
    refine dt 12 51 (.pointer (some ⟨g, 0 + iN * 2, none⟩)) (fun v hv _ => ol_index 22 _ _ g 0 iN l.length cap 2 31 rfl (by kernel_rfl) (by kernel_rfl) (by omega) Try.underlying22 (by kernel_rfl)) trivial ?_
    refine dw_ready [13] (by kernel_rfl) (by simp) ?_
    have hM1 := hM.set (j := iN) (by omega) (hM.gd kN _ ek hpk hek)
    have hth := hM.there (j := iN) (by omega)
    have hst := St.of w4.drew g (0 + iN * 2) [.slice a3 n3 c3, .slice a4 n4 c4]
    refine ar_s 13 rfl (fun _ => by kernel_rfl) (fun _ => ol_storeP _ _ (a := .slice a3 n3 c3) (b := .slice a4 n4 c4) hth rfl rfl rfl (by kernel_rfl) (by kernel_rfl)) trivial ?_ ar_nil
    have hg1 := (hM.gd iN _ ei hpi hei).keep (L := fun b => b ≠ g) (fun b hb _ => ⟨hst.other b hb, hb⟩)
    replace hB := hB.st hst hgw
    generalize w4.drew.setCells g (0 + iN * 2) [.slice a3 n3 c3, .slice a4 n4 c4] = wS1 at hM1 hB hst hg1 ⊢
    refine dt 14 52 (.pointer (some ⟨g, 0 + kN * 2, none⟩)) (fun v hv _ => ol_index 22 _ _ g 0 kN l.length cap 2 31 rfl (by kernel_rfl) (by kernel_rfl) (by omega) Try.underlying22 (by kernel_rfl)) trivial ?_
    refine dw_ready [15] (by kernel_rfl) (by simp) ?_
    have hM2 := hM1.set (j := kN) (by rw [List.length_set]; omega) (hg1)
    have hth := hM1.there (j := kN) (by rw [List.length_set]; omega)
    have hst := St.of wS1 g (0 + kN * 2) [.slice a1 n1 c1, .slice a2 n2 c2]
    refine ar_s 15 rfl (fun _ => by kernel_rfl) (fun _ => ol_storeP _ _ (a := .slice a1 n1 c1) (b := .slice a2 n2 c2) hth rfl rfl rfl (by kernel_rfl) (by kernel_rfl)) trivial ?_ ar_nil
    replace hB := hB.st hst hgw
    generalize wS1.setCells g (0 + kN * 2) [.slice a1 n1 c1, .slice a2 n2 c2] = wS2 at hM2 hB hst ⊢
    refine dw_done (by kernel_rfl) ?_
    exact nw_cut [(9, .slice (some ⟨g, 0, none⟩) l.length cap), (1, .int .i64 ((iN : Nat) : Int)), (2, .int .i64 ((kN : Nat) : Int))] (by exact ⟨fun _ => by kernel_rfl, ⟨fun _ => by kernel_rfl, ⟨fun _ => by kernel_rfl, trivial⟩⟩⟩) ⟨rfl, _, _, hM2, hB, ⟨(hvl.setv (hvl _ (List.mem_of_getElem? hek))).setv (hvl _ (List.mem_of_getElem? hei)), by rw [List.length_set, List.length_set]⟩, by rw [List.getElem?_set_ne (by omega), List.getElem?_set_self (by omega)], by rw [List.getElem?_set_self (by rw [List.length_set]; omega)]⟩
  clear hM hB hpi hpk
  rintro _ v5 ⟨rfl, vm, m, hM, hB, hmv, hmi, hmk⟩
  have hml := hM.ll
  have hlm : m.length = l.length := hmv.2
  have hik : iN < kN := by omega
  have hlt : Ni.lessP ei.1 ek.1 = true := by
    obtain ⟨q1, q2⟩ := List.getElem?_eq_some_iff.1 hei
    obtain ⟨q3, q4⟩ := List.getElem?_eq_some_iff.1 hek
    have := List.pairwise_iff_getElem.1 hpw iN kN q1 q3 hik
    rw [q2, q4] at this; exact this
  have hge : Ni.lessP ek.1 ei.1 = false := by
    cases hq : Ni.lessP ek.1 ei.1 with
    | false => rfl
    | true => have := less_trans _ _ _ hlt hq; rw [less_irr] at this; cases this
  have hE : runE none m = 80 := runE_no hmv.1 hik hmi hmk hge
  refine nw_then ?_
  refine cw_seq ?_
  refine cw_region ?_
  refine rp 54 (.slice (some ⟨g, 0, none⟩) l.length cap) ?_
  have hml1 := hM.ll
  have hP1 : PAt (fun _ => True) v5 (some ⟨g, 0, none⟩) l.length cap vm m := by have := hM.pat; rwa [show vm.length = l.length from by omega] at this
  have hdl1 := len_d m
  obtain ⟨d1, hd1⟩ : ∃ d, (if runE none m = 0 then rootP (runT no m) else z32) = d := ⟨_, rfl⟩
  rw [hd1] at hdl1
  refine rw_call 55 4 #[.slice (some ⟨g, 0, none⟩) l.length cap] (fun _ => by kernel_rfl) (fun _ => by kernel_rfl) (R := fun u w' => u = .tuple #[.agg (B8 d1), .int .i64 80] ∧ Bl (v5) w') (((bulkroot_any hP1 (by omega)).mono (fun e w' ⟨u, e1, e2, e3⟩ => ⟨u, e1, by rw [e2, hd1, hE], e3⟩))) ?_
  rintro _ u1 ⟨rfl, hb1⟩
  replace hB := hB.go hb1
  replace hM := hM.go hb1
  refine rp 53 (.tuple #[.agg (B8 d1), .int .i64 80]) ?_
  refine rp 56 (.agg (B8 d1)) ?_
  refine rp 57 (.int .i64 80) ?_
  have hB_0 := hB
  have hM_0 := hM
  have hz1 := hB.size
  refine rw_new 10 (B8 z32) 24 (fun _ => by kernel_rfl) (fun _ => by kernel_rfl) ?_
  intro wd1 gd1 hnd1
  replace hB := hB.go hnd1.below
  replace hM := hM.go hnd1.below
  refine rw_put gd1 (B8 d1) (fun _ => by kernel_rfl) (fun _ => ol_store 24 _ _ _ _ _ _ rfl (by kernel_rfl) (by kernel_rfl) hnd1.row (infoD' hdl1) (z8_size hdl1) (B8_one _)) ?_
  intro we1 hpe1
  have hne1 := hnd1.put hpe1
  replace hB := hB_0.go hne1.below
  replace hM := hM_0.go hne1.below
  refine rp 11 (.int .i64 80) ?_
  refine rw_nil ?_
  refine nw_then ?_
  refine cw_seq ?_
  obtain ⟨pk, hpk⟩ : ∃ p, vm[kN]? = some p := ⟨_, List.getElem?_eq_getElem (by omega)⟩
  have hgk := hM.gd kN pk ei hpk hmk
  obtain ⟨a3, n3, c3, a4, n4, c4, e3, e4, _, _⟩ := id hgk
  obtain ⟨pk1, pk2⟩ := pk
  simp only at e3 e4
  subst e3 e4
  refine cw_region ?_
  refine rp 58 (.slice (some ⟨g, 0, none⟩) l.length cap) ?_
  refine rp 59 (.int .i64 ((iN : Nat) : Int)) ?_
  refine rp 60 (.slice (some ⟨g, 0, none⟩) l.length cap) ?_
  refine rp 61 (.int .i64 ((kN : Nat) : Int)) ?_
  refine rv 62 (.pointer (some ⟨g, 0 + kN * 2, none⟩)) (fun _ => ol_index 22 _ _ g 0 kN l.length cap 2 31 rfl (by kernel_rfl) (by kernel_rfl) (by omega) Try.underlying22 (by kernel_rfl)) ?_
  refine rv 63 (.agg #[.slice a3 n3 c3, .slice a4 n4 c4]) (fun _ => ol_mid 31 _ g (0 + kN * 2) [.slice a3 n3 c3, .slice a4 n4 c4] _ rfl (by kernel_rfl) (hM.rng kN _ hpk) Try.underlying31 rfl (by kernel_rfl)) ?_
  refine rv 64 (.pointer (some ⟨g, 0 + iN * 2, none⟩)) (fun _ => ol_index 22 _ _ g 0 iN l.length cap 2 31 rfl (by kernel_rfl) (by kernel_rfl) (by omega) Try.underlying22 (by kernel_rfl)) ?_
  have hM3 := hM.set (j := iN) (by omega) hgk
  have hth := hM.there (j := iN) (by omega)
  have hst := St.of we1 g (0 + iN * 2) [.slice a3 n3 c3, .slice a4 n4 c4]
  refine rw_s (fun _ => by kernel_rfl) (fun _ => ol_storeP _ _ (a := .slice a3 n3 c3) (b := .slice a4 n4 c4) hth rfl rfl rfl (by kernel_rfl) (by kernel_rfl)) ?_
  replace hB := hB.st hst hgw
  generalize we1.setCells g (0 + iN * 2) [.slice a3 n3 c3, .slice a4 n4 c4] = w7 at hM3 hB hst ⊢
  have hmv3 : Vld (m.set iN ei) := hmv.1.set (List.mem_of_getElem? hmk)
  have hE3 : runE none (m.set iN ei) = 80 := runE_no hmv3 hik (by rw [List.getElem?_set_self (by omega)]) (by rw [List.getElem?_set_ne (by omega)]; exact hmk) (less_irr _)
  have hlm3 : (m.set iN ei).length = l.length := by rw [List.length_set]; exact hlm
  clear hM hE hmi hmk hmv hlm hpk hgk
  generalize m.set iN ei = m3 at hM3 hE3 hlm3 hmv3
  generalize vm.set iN (.slice a3 n3 c3, .slice a4 n4 c4) = vm3 at hM3
  have hM := hM3
  have hE := hE3
  have hml := hM.ll
  refine rw_nil ?_
  refine nw_then ?_
  refine cw_seq ?_
  refine cw_region ?_
  refine rp 66 (.slice (some ⟨g, 0, none⟩) l.length cap) ?_
  have hml2 := hM.ll
  have hP2 : PAt (fun _ => True) w7 (some ⟨g, 0, none⟩) l.length cap vm3 m3 := by have := hM.pat; rwa [show vm3.length = l.length from by omega] at this
  have hdl2 := len_d m3
  obtain ⟨d2, hd2⟩ : ∃ d, (if runE none m3 = 0 then rootP (runT no m3) else z32) = d := ⟨_, rfl⟩
  rw [hd2] at hdl2
  refine rw_call 67 4 #[.slice (some ⟨g, 0, none⟩) l.length cap] (fun _ => by kernel_rfl) (fun _ => by kernel_rfl) (R := fun u w' => u = .tuple #[.agg (B8 d2), .int .i64 80] ∧ Bl (w7) w') (((bulkroot_any hP2 (by omega)).mono (fun e w' ⟨u, e1, e2, e3⟩ => ⟨u, e1, by rw [e2, hd2, hE], e3⟩))) ?_
  rintro _ u2 ⟨rfl, hb2⟩
  replace hB := hB.go hb2
  replace hM := hM.go hb2
  refine rp 65 (.tuple #[.agg (B8 d2), .int .i64 80]) ?_
  refine rp 68 (.agg (B8 d2)) ?_
  refine rp 69 (.int .i64 80) ?_
  have hB_0 := hB
  have hM_0 := hM
  have hz2 := hB.size
  refine rw_new 12 (B8 z32) 24 (fun _ => by kernel_rfl) (fun _ => by kernel_rfl) ?_
  intro wd2 gd2 hnd2
  replace hB := hB.go hnd2.below
  replace hM := hM.go hnd2.below
  refine rw_put gd2 (B8 d2) (fun _ => by kernel_rfl) (fun _ => ol_store 24 _ _ _ _ _ _ rfl (by kernel_rfl) (by kernel_rfl) hnd2.row (infoD' hdl2) (z8_size hdl2) (B8_one _)) ?_
  intro we2 hpe2
  have hne2 := hnd2.put hpe2
  replace hB := hB_0.go hne2.below
  replace hM := hM_0.go hne2.below
  refine rp 13 (.int .i64 80) ?_
  refine rw_nil ?_
  refine nw_then ?_
  refine cw_seq ?_
  refine cw_region ?_
  refine rw_call 70 5 #[] (fun _ => by kernel_rfl) (fun _ => by kernel_rfl) (R := fun u w' => u = .bool true ∧ Bl (we2) w') (alive_any) ?_
  rintro _ u9 ⟨rfl, hb10⟩
  replace hB := hB.go hb10
  replace hM := hM.go hb10
  refine rp 71 (.bool true) ?_
  refine rp 72 (.int .i64 80) ?_
  refine rp 73 (.bool true) ?_
  refine rp 74 (.bool true) ?_
  refine rp 75 (.bool true) ?_
  refine rp 76 (.int .i64 80) ?_
  refine rp 77 (.bool true) ?_
  refine rp 78 (.bool true) ?_
  refine rp 6 (.bool true) ?_
  refine rw_nil ?_
  refine nw_then ?_
  refine cw_ret ?_
  exact nw_ret_body (.bool true) (fun _ => by kernel_rfl) ⟨rfl, hB⟩
end Go.Proofs.Ytdkpilgelgjieaa

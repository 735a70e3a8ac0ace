/- A call that is refused changes nothing. -/
import Derived.Test.YtchgejomcgoaeaaGreatG35
import Derived.Laws.OwnMore
set_option linter.unusedVariables false
set_option maxRecDepth 100000
namespace Go.Proofs.YtchgejomcgoaeaaGreat
open Go.RowKit
open Di (dref)
open Pt
variable {w w1 : World} {a : Option Addr} {n m c b0 : Nat} {xs ys : List Value} {ms : List (List Int)}
structure Opx where
  z : Int
  ka : Option Addr
  kn : Nat
  kc : Nat
  va : Option Addr
  vn : Nat
  vc : Nat
  k : List Int
  x : List Int
def Opx.cells (y : Opx) : Array Value := #[.int .i64 y.z, .slice y.ka y.kn y.kc, .slice y.va y.vn y.vc]
structure OAt (w : World) (a : Option Addr) (n : Nat) (xs : List Opx) : Prop where
  len : xs.length = n
  row : ∀ j y, xs[j]? = some y → ∃ g off, a = some ⟨g, off, none⟩ ∧ w.rangeAt g (off + j * 3) y.cells.toList
  kk : ∀ y ∈ xs, Ag w y.ka y.kn y.kc y.k
  vv : ∀ y ∈ xs, Ag w y.va y.vn y.vc y.x
theorem OAt.one {v : World} {xs : List Opx} (h : OAt w a n xs) (hb : Bl w v) {j : Nat} (hj : j < n) : ∃ y : Opx, ∃ g off, a = some ⟨g, off, none⟩ ∧ v.rangeAt g (off + j * 3) y.cells.toList ∧ Sk An v y.ka y.kn y.kc y.k ∧ Sk An v y.va y.vn y.vc y.x := by
  have hl := h.len
  have hg : xs[j]? = some (xs[j]'(by omega)) := List.getElem?_eq_getElem (by omega)
  have hm : xs[j]'(by omega) ∈ xs := List.getElem_mem _
  obtain ⟨g, off, e, hr⟩ := h.row j _ hg
  exact ⟨_, g, off, e, fun m x hx => Zaw hb (hr m x hx), (Ag.sk (h.kk _ hm)).go hb, (Ag.sk (h.vv _ hm)).go hb⟩
theorem Zkd {kn : Kn} {t : Pt} {v : Value} (h : ThA w t v) (k : Int) (key y : List Int) : (callP kn t k key y).2.d.length = 32 := by
  unfold callP
  split
  · rfl
  · split
    · rfl
    · split
      · rfl
      · exact Zhr h
def KLe (k1 k2 : Kn) : Prop := ∀ d t, findK d k1 = some t → findK d k2 = some t
theorem KLe.refl (k : Kn) : KLe k k := fun _ _ h => h
theorem KLe.trans {a b c : Kn} (h : KLe a b) (h2 : KLe b c) : KLe a c := fun d t e => h2 d t (h d t e)
theorem Xag {d : List Int} {t : Pt} : ∀ {kn : Kn} (r : Kn), findK d kn = some t → findK d (kn ++ r) = some t
  | [], r, h => by cases h
  | x :: l, r, h => by
    rw [List.cons_append]
    unfold findK at h ⊢
    split
    · rename_i e
      rw [if_pos e] at h
      exact h
    · rename_i e
      rw [if_neg e] at h
      exact Xag r h
theorem Xap : ∀ (ns : List (List Int)) (kn : Kn), KLe kn (knP ns kn)
  | [], kn => KLe.refl kn
  | b :: r, kn => by
    rw [Zmc]
    refine KLe.trans ?_ (Xap r _)
    cases findK (dref b) kn with
    | some _ => exact KLe.refl kn
    | none =>
      cases ND b with
      | none => exact KLe.refl kn
      | some n => exact fun d t h => Xag _ h
theorem Xak : ∀ (a b : List (List Int)) (kn : Kn), knP (a ++ b) kn = knP b (knP a kn)
  | [], b, kn => rfl
  | x :: r, b, kn => by rw [List.cons_append, Zmc, Zmc, Xak r b]
section
variable {k1 k2 : Kn}
theorem Xaj (h : KLe k1 k2) {s : Sp} {u : Pt} (e : lookP k1 s = some u) : lookP k2 s = some u := by
  obtain ⟨t, l, c⟩ := s
  cases t with
  | st d =>
    unfold lookP at e ⊢
    simp only at e ⊢
    cases hf : findK d k1 with
    | none => rw [hf] at e; cases e
    | some v => rw [hf] at e; rw [h d v hf]; exact e
  | no => exact e
  | leaf p x => exact e
  | ext p t => exact e
  | br k x => exact e
theorem Xae (h : KLe k1 k2) {path : List Int} : ∀ {f : Nat} {s : Sp} {ws : List Sp}, walkP k1 path f s = some ws → walkP k2 path f s = some ws
  | 0, s, ws, e => by cases e
  | f + 1, s, ws, e => by
    unfold walkP at e ⊢
    cases hl : lookP k1 s with
    | none => rw [hl] at e; cases e
    | some u =>
      rw [hl] at e
      rw [Xaj h hl]
      simp only at e ⊢
      cases hn : nextP path ⟨u, s.l, s.c⟩ with
      | none => rw [hn] at e; exact e
      | some s2 =>
        rw [hn] at e
        simp only at e ⊢
        cases hw : walkP k1 path f s2 with
        | none => rw [hw] at e; cases e
        | some r => rw [hw] at e; rw [Xae h hw]; exact e
theorem Xao (h : KLe k1 k2) {k : Nat → Pt} {x : List Int} {l : Nat} {u : Pt} (e : nrmP k1 k x l = some u) : nrmP k2 k x l = some u := by
  unfold nrmP at e ⊢
  by_cases h1 : kidsN k 16 = 0
  · rw [if_pos h1] at e ⊢; exact e
  rw [if_neg h1] at e ⊢
  by_cases h2 : 1 < kidsN k 16 ∨ 0 < x.length
  · rw [if_pos h2] at e ⊢; exact e
  rw [if_neg h2] at e ⊢
  cases hl : lookP k1 ⟨k (lastN k 16), l + 1, false⟩ with
  | none => rw [hl] at e; cases e
  | some v => rw [hl] at e; rw [Xaj h hl]; exact e
theorem Xad (h : KLe k1 k2) {path : List Int} : ∀ {ws : List Sp} {t u : Pt}, remP k1 path ws t = some u → remP k2 path ws t = some u
  | [], t, u, e => e
  | s :: r, t, u, e => by
    unfold remP at e ⊢
    cases hs : s.t with
    | no => rw [hs] at e; exact Xad h e
    | st d => rw [hs] at e; exact Xad h e
    | leaf p x => rw [hs] at e; exact Xad h e
    | ext p c => rw [hs] at e; exact Xad h e
    | br k x =>
      rw [hs] at e
      simp only at e ⊢
      cases hn : nrmP k1 (upd k (path.getD s.l 0).toNat t) x s.l with
      | none => rw [hn] at e; cases e
      | some v => rw [hn] at e; rw [Xao h hn]; exact Xad h e
theorem wo_le (h : KLe k1 k2) {s : Sp} {u : Pt} (e : woP k1 s = some u) : woP k2 s = some u := by
  obtain ⟨t, l, c⟩ := s
  cases t with
  | br k x => exact Xao h e
  | no => exact e
  | st d => exact e
  | leaf p x => exact e
  | ext p t => exact e
theorem Xaw (h : KLe k1 k2) {t : Pt} {key : List Int} (e : ¬ (getP k1 t key).2 = 2) : getP k2 t key = getP k1 t key := by
  unfold getP at e ⊢
  by_cases h1 : 32 < key.length
  · rw [if_pos h1, if_pos h1]
  rw [if_neg h1] at e
  rw [if_neg h1, if_neg h1]
  cases hw : wayP k1 t (Ni.nib key) with
  | none => rw [hw] at e; exact absurd rfl e
  | some way => rw [show wayP k2 t (Ni.nib key) = some way from Xae h hw]
theorem Xau (h : KLe k1 k2) {t : Pt} {key y : List Int} (e : ¬ (putQ k1 t key y).2 = 2) : putQ k2 t key y = putQ k1 t key y := by
  unfold putQ at e ⊢
  by_cases h1 : 32 < key.length
  · rw [if_pos h1, if_pos h1]
  rw [if_neg h1] at e
  rw [if_neg h1, if_neg h1]
  by_cases h2 : y.length = 0 ∨ 256 < y.length
  · rw [if_pos h2, if_pos h2]
  rw [if_neg h2] at e
  rw [if_neg h2, if_neg h2]
  cases hw : wayP k1 t (Ni.nib key) with
  | none => rw [hw] at e; exact absurd rfl e
  | some way =>
    rw [hw] at e
    rw [show wayP k2 t (Ni.nib key) = some way from Xae h hw]
    simp only at e ⊢
    cases hr : remP k1 (Ni.nib key) (way.take (way.length - 1)).reverse (wit (endS way).t ((Ni.nib key).drop (endS way).l) y) with
    | none => rw [hr] at e; exact absurd rfl e
    | some u => rw [Xad h hr]
theorem Xax (h : KLe k1 k2) {t : Pt} {key : List Int} (e : ¬ (delQ k1 t key).2.2 = 2) : delQ k2 t key = delQ k1 t key := by
  unfold delQ at e ⊢
  by_cases h1 : 32 < key.length
  · rw [if_pos h1, if_pos h1]
  rw [if_neg h1] at e
  rw [if_neg h1, if_neg h1]
  cases hw : wayP k1 t (Ni.nib key) with
  | none => rw [hw] at e; exact absurd rfl e
  | some way =>
    rw [hw] at e
    rw [show wayP k2 t (Ni.nib key) = some way from Xae h hw]
    simp only at e ⊢
    by_cases h2 : (valS (Ni.nib key) (endS way)).length = 0
    · rw [if_pos h2, if_pos h2]
    rw [if_neg h2] at e
    rw [if_neg h2, if_neg h2]
    cases hq : woP k1 (endS way) with
    | none => rw [hq] at e; exact absurd rfl e
    | some u =>
      rw [hq] at e
      rw [wo_le h hq]
      simp only at e ⊢
      cases hr : remP k1 (Ni.nib key) (way.take (way.length - 1)).reverse u with
      | none => rw [hr] at e; exact absurd rfl e
      | some v => rw [Xad h hr]
theorem Xat (h : KLe k1 k2) {t : Pt} {k : Int} {key y : List Int} (e : ¬ (callP k1 t k key y).2.e = 2) : callP k2 t k key y = callP k1 t k key y := by
  unfold callP at e ⊢
  by_cases h0 : k = 0
  · rw [if_pos h0] at e
    rw [if_pos h0, if_pos h0, Xaw h e]
  rw [if_neg h0] at e
  rw [if_neg h0, if_neg h0]
  by_cases h1 : k = 1
  · rw [if_pos h1] at e
    rw [if_pos h1, if_pos h1, Xau h e]
  rw [if_neg h1] at e
  rw [if_neg h1, if_neg h1]
  by_cases h2 : k = 2
  · rw [if_pos h2] at e
    rw [if_pos h2, if_pos h2, Xax h e]
  rw [if_neg h2, if_neg h2]
end
structure NsV (w : World) (ys : List Value) (ms : List (List Int)) : Prop where
  len : ys.length = ms.length
  at_ : ∀ (j : Nat) (b : List Int), ms[j]? = some b → ∃ a n c, ys[j]? = some (.slice a n c) ∧ Sk An w a n c b ∧ n ≤ 140737488351232
theorem NsV.nil (w : World) : NsV w [] [] := ⟨rfl, fun j b h => by simp at h⟩
theorem NsV.app {ns : List (List Int)} (h : NsV w xs ns) (h2 : NsV w ys ms) : NsV w (xs ++ ys) (ns ++ ms) := ⟨by rw [List.length_append, List.length_append, h.len, h2.len], fun j b hj => by
  have hl := h.len
  by_cases hlt : j < ns.length
  · rw [List.getElem?_append_left hlt] at hj
    rw [List.getElem?_append_left (by omega)]
    exact h.at_ j b hj
  · rw [List.getElem?_append_right (by omega)] at hj
    rw [List.getElem?_append_right (by omega), hl]
    exact h2.at_ _ b hj⟩
theorem NsA.vals {p : Addr} (h : NsA w (some p) m c ms) : ∃ ys, NsV w ys ms ∧ ∀ j u, ys[j]? = some u → w.cell? (p.add j) = some u := by
  refine ⟨(List.range ms.length).map fun j => (w.cell? (p.add j)).getD undef, ⟨by simp, fun j b hj => ?_⟩, fun j u hu => ?_⟩
  · obtain ⟨g, off, a', n', c', e, hc, hs, hle⟩ := h.row j b hj
    have hlt : j < ms.length := (List.getElem?_eq_some_iff.1 hj).1
    cases e
    refine ⟨a', n', c', ?_, hs, hle⟩
    rw [List.getElem?_map, List.getElem?_range hlt, Option.map_some, Zbb]
    rw [Nat.mul_one] at hc
    rw [hc]
    rfl
  · have hlt : j < ms.length := by
      have := (List.getElem?_eq_some_iff.1 hu).1
      simpa using this
    obtain ⟨g, off, a', n', c', e, hc, hs, hle⟩ := h.row j (ms[j]'hlt) (List.getElem?_eq_getElem hlt)
    cases e
    rw [List.getElem?_map, List.getElem?_range hlt, Option.map_some, Zbb] at hu
    rw [Nat.mul_one] at hc
    rw [hc] at hu
    rw [Zbb, hc]
    exact hu
theorem apps (hB : Bl w w1) {v : Value} (hb0 : w.heap.size ≤ b0) (hb1 : b0 ≤ w1.heap.size) (ho : w1.ownsRow b0 29 1 v n xs) (hN : NsA w a m c ms) (hc : a = none → c = 0) (hb : n + m ≤ 4194304) :
    ∃ v' w2 ys, (∀ ty, (Builtin.append_ #[24, 24] ty #[v, .slice a m c]).run Tryz.prog w1 = .ok v' w2) ∧ w2.ownsRow b0 29 1 v' (n + m) (xs ++ ys) ∧ NsV w ys ms ∧ Bl w w2 ∧ w1.grownBy w2 v.ownBlock := by
  obtain ⟨i, hi, hz, hsz, hby⟩ := Zx9
  cases a with
  | none =>
    obtain rfl := hc rfl
    have hm : ms = [] := by
      cases ms with
      | nil => rfl
      | cons b r => obtain ⟨_, _, _, _, _, e, _⟩ := hN.row 0 b rfl; cases e
    subst hm
    have h0 : m = 0 := hN.len
    subst h0
    refine ⟨v, w1, [], fun ty => run_append_owned_none (P := Tryz.prog) (w := w1) b0 24 ty 29 i 1 Tryz.underlying24 hi v n xs ho, by rw [List.append_nil]; exact ho, NsV.nil w, hB, ⟨rfl, rfl, rfl, Nat.le_refl _, fun _ _ _ => rfl⟩⟩
  | some p =>
    obtain ⟨ys, h1, h2⟩ := hN.vals
    have hl := hN.len
    have hlen : ys.length = m * 1 := by rw [h1.len, Nat.mul_one]; exact hl.symm
    obtain ⟨v', w2, hrun, hown, hgr, _⟩ := run_append_own (P := Tryz.prog) w1 b0 24 0 29 i _ 1 24 Tryz.underlying24 hi hz hsz hby rfl (by decide) v n xs ho p m c ys hlen (fun j u hu => ((show Below w.heap.size w w1 from hB).cell (World.block_lt_of_cell? w _ (h2 j u hu))).trans (h2 j u hu)) (fun u hu => by
      obtain ⟨j, hj⟩ := List.getElem?_of_mem hu
      have hjl := (List.getElem?_eq_some_iff.1 hj).1
      obtain ⟨_, _, _, e, _⟩ := h1.at_ j (ms[j]'(by rw [← h1.len]; exact hjl)) (List.getElem?_eq_getElem _)
      rw [hj] at e
      cases e
      rfl) (by unfold maxLen; omega) (by omega) hb1
    refine ⟨v', w2, ys, fun ty => hrun, hown, h1, hB.grown hgr hB.size (fun k hk => ?_), hgr⟩
    rcases ho.2 with ⟨rfl, _⟩ | ⟨g, cap, cur, rfl, hge, _⟩
    · simp [Value.ownBlock] at hk
    · simp only [Value.ownBlock, Option.some.injEq] at hk
      omega
theorem NsV.ns (hB : Bl w w1) {v : Value} (hV : NsV w ys ms) (ho : w1.ownsRow b0 29 1 v n ys) : ∃ a c, v = .slice a n c ∧ NsA w1 a n c ms := by
  have hl := ho.1
  have hv := hV.len
  rcases ho.2 with ⟨rfl, rfl⟩ | ⟨g, cap, cur, rfl, hge, hrow, hnc, hcm, hsz, htk⟩
  · have : ms = [] := List.length_eq_zero_iff.1 (by omega)
    subst this
    exact ⟨none, 0, rfl, rfl, fun j b h => by simp at h⟩
  · refine ⟨_, _, rfl, by omega, fun j b hj => ?_⟩
    obtain ⟨a', n', c', e, hs, hle⟩ := hV.at_ j b hj
    refine ⟨g, 0, a', n', c', rfl, ?_, hs.go hB, hle⟩
    rw [Nat.zero_add, Nat.mul_one, cell_of_row _ _ _ _ _ _ hrow]
    rw [← htk] at e
    have hj2 : j < n * 1 := by
      have := (List.getElem?_eq_some_iff.1 e).1
      rw [List.length_take] at this
      omega
    rw [List.getElem?_take_of_lt hj2] at e
    simpa using e
theorem Rw.grown {g : Nat} {w' : World} {cells : Array Value} {T : TypeId} (h : Rw g w cells T) {v : Value} {e : TypeId} (hgr : w.grownBy w' v.ownBlock) (ho : w.ownsRow b0 e 1 v n xs) (hlt : g < b0) : Rw g w' cells T := by
  have h2 : w.heap[g]? = some (.cells cells T (0, 0)) := h
  have hl : g < w.heap.size := (Array.getElem?_eq_some_iff.1 h2).1
  show w'.heap[g]? = _
  rw [hgr.block g hl (fun e => ?_)]
  · exact h2
  · rcases ho.2 with ⟨rfl, _⟩ | ⟨k, cap, cur, rfl, hge, _⟩
    · simp [Value.ownBlock] at e
    · simp only [Value.ownBlock, Option.some.injEq] at e
      omega
end Go.Proofs.YtchgejomcgoaeaaGreat

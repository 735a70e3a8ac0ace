/- Nodes and their bytes, back and forth, as plain functions: what is written is read as it was; what is read is written as the same bytes. -/
import Derived.Test.YtchgejomcgoaeaaGreatG08
import Derived.Test.YtchgejomcgoaeaaGreatRows
import Derived.WalkKit
import Derived.WalkSpells
import Derived.WalkLawsBesides
import Derived.BigQuiet
import Derived.Deep.QuietTactic
import Derived.Handy
import Derived.Deep.RegionHeld3
set_option linter.unusedVariables false
set_option maxRecDepth 100000
namespace Go.Proofs.YtchgejomcgoaeaaGreat
open Ni (unpP packP rightP)
variable {D : Nat} {ts : List T} {r : PR} {b i : List Int} {n m : PN} {u : T}
def OkD (D : Nat) (t : T) : Prop := ∀ d w, d ≤ D → w + (enc t).length ≤ 16777215 → (wk t d w).2 = 0 ∧ (wk t d w).1 ≤ w + (enc t).length
theorem OkD.mono {E : Nat} {t : T} (h : OkD D t) (he : E ≤ D) : OkD E t := fun d w hd hw => h d w (by omega) hw
theorem Zj9 (bs : List Int) : max bs.length 1 ≤ (enc (.mk false bs [])).length := by
  have h1 := Zi0 (.mk false bs [])
  have h2 := Zdj (.mk false bs [])
  rw [show bodyOf (.mk false bs []) = bs from by rw [bodyOf, T.bs, T.its, Za4, List.append_nil]] at h2
  omega
theorem Zee (D : Nat) (bs : List Int) : OkD D (.mk false bs []) := fun d w hd hw => by
  have hl := Zj9 bs
  have hwt : wt false bs d = max bs.length 1 := by unfold wt; simp
  rw [Zi9, if_neg (by simp), if_neg (by simp [wrongForm]), hwt, if_neg (by omega), Zc0]
  exact ⟨rfl, by dsimp only; omega⟩
theorem Ztq {D : Nat} : ∀ {ts : List T}, (∀ t ∈ ts, OkD D t) → ∀ d w, d ≤ D → w + (encs ts).length ≤ 16777215 → (wks ts d w).2 = 0 ∧ (wks ts d w).1 ≤ w + (encs ts).length
  | [], _, d, w, _, _ => by rw [Zc0]; exact ⟨rfl, by simp⟩
  | t :: r, h, d, w, hd, hw => by
    rw [Za9, List.length_append] at hw ⊢
    obtain ⟨h1, h2⟩ := h t (by simp) d w hd (by omega)
    rw [Zcv, if_pos h1]
    obtain ⟨h3, h4⟩ := Ztq (fun u hu => h u (List.mem_cons_of_mem _ hu)) d (wk t d w).1 hd (by omega)
    exact ⟨h3, by omega⟩
theorem Zpq (hD : D ≤ 7) (h : ∀ t ∈ ts, OkD (D + 1) t) : OkD D (.mk true [] ts) := fun d w hdd hw => by
  have he : (enc (.mk true [] ts)).length = (hd 192 (encs ts).length).length + (encs ts).length := by rw [encL (t := .mk true [] ts) rfl rfl, List.length_append]; rfl
  have hp := Zmj 192 (encs ts).length
  have hwt : wt true [] d ≤ 1 := by unfold wt; split <;> simp
  rw [Zi9, if_neg (by simp; omega), if_neg (by simp [wrongForm]), if_neg (by omega)]
  obtain ⟨h1, h2⟩ := Ztq h (d + 1) (w + wt true [] d) (by omega) (by omega)
  exact ⟨h1, by omega⟩
theorem Zxs {t : T} (h : OkD D t) (hf : form t = true) (hl : (enc t).length ≤ 16777215) : (mP t).2 = 0 := by
  have h0 := (h 0 0 (by omega) (by omega)).1
  have hb := Zdj t
  unfold mP
  rw [if_neg (by rw [h0]; simp), if_neg (by rw [Zid hf]; omega)]
theorem Zp5 {bs : List Int} (h : bs.length ≤ 65536) : (mP (.mk false bs [])).2 = 0 := by
  refine Zxs (Zee 0 bs) (by rw [Zdv]; simp [Zcu]) ?_
  rw [Zb9, Za4, List.append_nil]
  have := Zs5 (base := baseOf false) (n := bs.length) (by omega)
  split
  · omega
  · rw [List.length_append]; omega
theorem Zcm {dk : List Int → Int} (h : rrefP dk r = true) : (r.k = 0 ∧ r.d = z32 ∧ r.i = []) ∨ (r.k = 2 ∧ r.i = []) ∨ (r.k = 1 ∧ r.d = z32 ∧ r.i.length < 32 ∧ dk r.i ≠ 0) := by
  unfold rrefP at h
  by_cases h0 : r.k = 0
  · simp [h0] at h; exact .inl ⟨h0, h.1, h.2⟩
  · by_cases h2 : r.k = 2
    · simp [h2] at h; exact .inr (.inl ⟨h2, h⟩)
    · by_cases h1 : r.k = 1
      · simp [h1] at h; exact .inr (.inr ⟨h1, h.1.1, h.1.2, h.2⟩)
      · simp [h0, h1, h2] at h
theorem Zcp {t : T} (hb : isB b) (hd : decP b = .ok t) (hn : nodeOfP t = some n) : t.l = true ∧ t.bs = [] ∧ forms t.its = true := Zgx (Zff hb hd).2.2 (Zgp hn).1
theorem PR.ext {a b : PR} (h1 : a.k = b.k) (h2 : a.d = b.d) (h3 : a.i = b.i) : a = b := by cases a; cases b; simp_all
theorem PN.ext {a b : PN} (h1 : a.k = b.k) (h2 : a.p = b.p) (h3 : a.v = b.v) (h4 : a.c = b.c) (h5 : a.ks = b.ks) : a = b := by cases a; cases b; simp_all
theorem Zfx (ho : okR r) (h : rrefP KD r = true) : refOfP (refItemP r) = some r ∧ (mP (refItemP r)).2 = 0 ∧ (enc (refItemP r)).length ≤ 36 := by
  rcases Zcm h with ⟨h1, h2, h3⟩ | ⟨h1, h2⟩ | ⟨h1, h2, h3, h4⟩
  · have e : refItemP r = t0 := by unfold refItemP; rw [if_neg (by omega), if_neg (by omega)]
    rw [e]
    refine ⟨?_, Zp5 (by simp), by decide +kernel⟩
    unfold refOfP
    rw [if_neg (by simp [t0, T.l]), if_pos (by rfl)]
    exact congrArg some (PR.ext h1.symm h2.symm h3.symm)
  · have e : refItemP r = .mk false r.d [] := by unfold refItemP; rw [if_neg (by omega), if_pos h1]
    rw [e]
    have hl := ho.2.1
    refine ⟨?_, Zp5 (by omega), ?_⟩
    · unfold refOfP
      rw [if_neg (by simp [T.l]), if_neg (by show ¬ r.d.length = 0; omega), if_pos (by exact hl)]
      exact congrArg some (PR.ext h1.symm rfl h2.symm)
    · rw [Zb9, Za4, List.append_nil]
      have := Zs5 (base := baseOf false) (n := r.d.length) (by omega)
      split
      · omega
      · rw [List.length_append]; omega
  · obtain ⟨m, hm, _⟩ := Zhb h4
    obtain ⟨t, hd, hn, hr⟩ := Zel ho.2.2 hm
    have e : refItemP r = t := by unfold refItemP; rw [if_pos h1, hd]
    rw [e]
    obtain ⟨e1, e2, e3⟩ := Zff ho.2.2 hd
    refine ⟨?_, e2, by rw [e1]; omega⟩
    unfold refOfP
    rw [if_pos (Zcp ho.2.2 hd hn).1, if_pos e2, e1]
    exact congrArg some (PR.ext h1.symm h2.symm rfl)
theorem Zc1 (hf : form u = true) (h : ¬ u.l = true) : u = .mk false u.bs [] := by
  obtain ⟨l, bs, its⟩ := u
  have hl : l = false := by simpa [T.l] using h
  subst hl
  rw [Zc7 hf]
  rfl
theorem Zep (hf : form u = true) (h : refOfP u = some r) : refItemP r = u ∧ (u.l = true → (mP u).2 = 0 ∧ r = ⟨1, z32, enc u⟩) ∧ (¬ u.l = true → r.k ≠ 1) := by
  unfold refOfP at h
  by_cases hl : u.l = true
  · rw [if_pos hl] at h
    by_cases hm : (mP u).2 = 0
    · rw [if_pos hm] at h
      cases h
      refine ⟨?_, fun _ => ⟨hm, rfl⟩, fun h => absurd hl h⟩
      unfold refItemP
      rw [if_pos rfl, Zk8 hm]
    · rw [if_neg hm] at h; cases h
  · rw [if_neg hl] at h
    have ht := Zc1 hf hl
    by_cases h0 : u.bs.length = 0
    · rw [if_pos h0] at h
      cases h
      refine ⟨?_, fun h => absurd h hl, fun _ => by show (0 : Int) ≠ 1; decide⟩
      rw [ht, List.eq_nil_of_length_eq_zero h0]
      rfl
    · rw [if_neg h0] at h
      by_cases h32 : u.bs.length = 32
      · rw [if_pos h32] at h
        cases h
        refine ⟨?_, fun h => absurd h hl, fun _ => by show (2 : Int) ≠ 1; decide⟩
        rw [ht]
        rfl
      · rw [if_neg h32] at h; cases h
theorem Zj3 : ∀ {ks : List PR}, (∀ r ∈ ks, refOfP (refItemP r) = some r) → kidsP (ks.map refItemP) = some ks
  | [], _ => rfl
  | r :: l, h => by rw [List.map_cons, kidsP, h r (by simp), Zj3 fun x hx => h x (List.mem_cons_of_mem _ hx)]
theorem Zj0 : ∀ {ts : List T} {ks : List PR}, (∀ t ∈ ts, form t = true) → kidsP ts = some ks → ks.map refItemP = ts
  | [], ks, _, h => by cases h; rfl
  | t :: l, ks, hf, h => by
    rw [kidsP] at h
    cases hr : refOfP t with
    | none => rw [hr] at h; cases h
    | some a =>
      rw [hr] at h
      dsimp only at h
      cases hk : kidsP l with
      | none => rw [hk] at h; cases h
      | some l' =>
        rw [hk] at h
        cases h
        rw [List.map_cons, (Zep (hf t (by simp)) hr).1, Zj0 (fun u hu => hf u (List.mem_cons_of_mem _ hu)) hk]
theorem Zcb (h : NR n = true) : (n.k = 1 ∧ n.p.length ≤ 64 ∧ rightP n.p = true ∧ 0 < n.v.length ∧ n.v.length ≤ 256 ∧ rrefP KD n.c = true ∧ n.c.k = 0 ∧ n.ks = []) ∨
    (n.k = 2 ∧ 0 < n.p.length ∧ n.p.length ≤ 64 ∧ rightP n.p = true ∧ n.v = [] ∧ rrefP KD n.c = true ∧ (n.c.k = 2 ∨ KD n.c.i = 3) ∧ n.ks = []) ∨
    (n.k = 3 ∧ n.p = [] ∧ n.v.length ≤ 256 ∧ rrefP KD n.c = true ∧ n.c.k = 0 ∧ n.ks.length = 16 ∧ (∀ r ∈ n.ks, rrefP KD r = true) ∧ 2 ≤ (if 0 < n.v.length then 1 else 0) + ways n.ks) := by
  have hk := Zwq h
  unfold NR nright rpathP rvalueP rchildP rkidsP at h
  have hch : rrefP KD n.c = true := by
    cases hq : rrefP KD n.c with
    | true => rfl
    | false => rw [hq] at h; simp at h
  rcases hk with hk | hk | hk
  · left
    simp [hk, hch] at h
    obtain ⟨⟨⟨⟨_, h1, h2⟩, h3, h4⟩, h5⟩, h6⟩ := h
    exact ⟨hk, h1, h2, List.length_pos_iff.2 h3, h4, hch, h5, h6⟩
  · right; left
    simp [hk, hch] at h
    obtain ⟨⟨⟨⟨_, h1, h2, h3⟩, h4⟩, h5⟩, h6⟩ := h
    exact ⟨hk, List.length_pos_iff.2 h1, h2, h3, h4, hch, h5, h6⟩
  · right; right
    simp [hk, hch] at h
    obtain ⟨⟨⟨⟨_, h1⟩, h2⟩, h3⟩, h4, h5, h6⟩ := h
    exact ⟨hk, h1, h2, hch, h3, h4, h5, by simpa using h6⟩
theorem Zj2 : ∀ {ts : List T} {ks : List PR}, kidsP ts = some ks → ∀ u ∈ ts, ∃ r ∈ ks, refOfP u = some r
  | [], ks, h, u, hu => by cases hu
  | t :: l, ks, h, u, hu => by
    rw [kidsP] at h
    cases hr : refOfP t with
    | none => rw [hr] at h; cases h
    | some a =>
      rw [hr] at h
      dsimp only at h
      cases hk : kidsP l with
      | none => rw [hk] at h; cases h
      | some l' =>
        rw [hk] at h
        cases h
        rcases List.mem_cons.1 hu with rfl | hu
        · exact ⟨a, by simp, hr⟩
        · obtain ⟨r, h1, h2⟩ := Zj2 hk u hu
          exact ⟨r, by simp [h1], h2⟩
theorem Zh2 : ∀ its : List T, its.length ≤ (encs its).length
  | [] => by simp
  | t :: r => by
    have := Zi0 t
    have := Zh2 r
    rw [Za9, List.length_append, List.length_cons]; omega
theorem Zfq : ∀ {its : List T} {u : T}, u ∈ its → (enc u).length + its.length ≤ (encs its).length + 1
  | t :: r, u, hu => by
    rw [Za9, List.length_append, List.length_cons]
    have := Zi0 t
    rcases List.mem_cons.1 hu with rfl | hu
    · have := Zh2 r; omega
    · have := Zfq hu; omega
theorem Zw8 {its : List T} (h : its.length = 2) : its = [its.getD 0 t0, its.getD 1 t0] := by
  match its, h with
  | [x, y], _ => rfl
theorem Zjc {its : List T} (h : its.length = 17) : its = its.take 16 ++ [its.getD 16 t0] := by
  have h1 : its.drop 16 = [its.getD 16 t0] := by
    rw [List.drop_eq_getElem_cons (by omega), List.drop_of_length_le (by omega), List.getD, List.getElem?_eq_getElem (by omega)]
    rfl
  rw [← h1, List.take_append_drop]
theorem Zdt {t : T} (hf : forms t.its = true) (h : nodeOfP t = some n) :
    (∃ x y, t.its = [x, y] ∧ x = .mk false x.bs [] ∧ (unpP x.bs).2.2 = 0 ∧ (((unpP x.bs).2.1 = true ∧ y = .mk false y.bs [] ∧ n = ⟨1, (unpP x.bs).1, y.bs, r0, []⟩) ∨ ((unpP x.bs).2.1 = false ∧ ∃ c, refOfP y = some c ∧ form y = true ∧ n = ⟨2, (unpP x.bs).1, [], c, []⟩))) ∨
    (∃ ts y ks, t.its = ts ++ [y] ∧ ts.length = 16 ∧ y = .mk false y.bs [] ∧ kidsP ts = some ks ∧ (∀ u ∈ ts, form u = true) ∧ n = ⟨3, [], y.bs, r0, ks⟩) := by
  unfold nodeOfP at h
  by_cases h2 : t.its.length = 2
  · rw [if_pos h2] at h
    left
    have hit := Zw8 h2
    generalize t.its.getD 0 t0 = x at h hit
    generalize t.its.getD 1 t0 = y at h hit
    have fx := Zbt hf x (by rw [hit]; simp)
    have fy := Zbt hf y (by rw [hit]; simp)
    unfold pathP at h
    by_cases hb : x.l = true ∨ (unpP x.bs).2.2 ≠ 0
    · rw [if_pos hb] at h; cases h
    · rw [if_neg hb] at h
      have hxl : ¬ x.l = true := fun e => hb (.inl e)
      have hxe : (unpP x.bs).2.2 = 0 := Decidable.byContradiction fun e => hb (.inr e)
      refine ⟨x, y, hit, Zc1 fx hxl, hxe, ?_⟩
      by_cases hl : (unpP x.bs).2.1 = true
      · rw [if_pos hl] at h
        by_cases hy : y.l = true
        · rw [if_pos hy] at h; cases h
        · rw [if_neg hy] at h; cases h
          exact .inl ⟨hl, Zc1 fy hy, rfl⟩
      · rw [if_neg hl] at h
        cases hq : refOfP y with
        | none => rw [hq] at h; cases h
        | some c =>
          rw [hq] at h; cases h
          exact .inr ⟨by simpa using hl, c, rfl, fy, rfl⟩
  · rw [if_neg h2] at h
    by_cases h17 : t.its.length = 17
    · rw [if_pos h17] at h
      right
      have hit := Zjc h17
      have hl16 : (t.its.take 16).length = 16 := by rw [List.length_take]; omega
      generalize t.its.take 16 = ts at h hit hl16
      generalize t.its.getD 16 t0 = y at h hit
      have fy := Zbt hf y (by rw [hit]; simp)
      unfold branchP at h
      cases hk : kidsP ts with
      | none => rw [hk] at h; cases h
      | some ks =>
        rw [hk] at h
        dsimp only at h
        by_cases hy : y.l = true
        · rw [if_pos hy] at h; cases h
        · rw [if_neg hy] at h; cases h
          exact ⟨ts, y, ks, hit, hl16, Zc1 fy hy, hk, fun u hu => Zbt hf u (by rw [hit]; simp [hu]), rfl⟩
    · rw [if_neg h17] at h; cases h
theorem Ziq {y : T} (h : y = .mk false y.bs []) : ¬ y.l = true := by rw [h]; simp [T.l]
theorem Zk7 {t : T} (hb : isB b) (h : decP b = .ok t) (hu : u ∈ t.its) : isB (enc u) := fun x hx => hb x ((Zko hb h hu).2 x hx)
theorem Zfw {t : T} (hb : isB i) (hm : ND i = some m) (hd' : decP i = .ok t) (hu : u ∈ t.its) (hl : u.l = true) :
    ∃ m', ND (enc u) = some m' ∧ decP (enc u) = .ok u ∧ isB (enc u) ∧ ((m.k = 2 ∧ m'.k = 3 ∧ (enc u).length + 2 ≤ i.length) ∨ (m.k = 3 ∧ (enc u).length + 17 ≤ i.length)) := by
  obtain ⟨t', e1, hn, hr⟩ := Zel hb hm
  rw [hd'] at e1
  cases e1
  obtain ⟨e1, e2, e3⟩ := Zff hb hd'
  obtain ⟨l1, l2, l3⟩ := Zcp hb hd' hn
  have hlen : i.length = (hd 192 (encs t.its).length).length + (encs t.its).length := by rw [← e1, encL l1 l2, List.length_append]
  have hp := Zmj 192 (encs t.its).length
  have hml := Zfq hu
  have hbu := Zk7 hb hd' hu
  rcases Zdt l3 hn with ⟨x, y, hit, hx, _, hc⟩ | ⟨ts, y, ks, hit, h16, hy, hk, hfs, rfl⟩
  · have hit2 : t.its.length = 2 := by rw [hit]; rfl
    rw [hit] at hu
    simp only [List.mem_cons, List.not_mem_nil, or_false] at hu
    rcases hu with rfl | rfl
    · exact absurd hl (Ziq hx)
    · rcases hc with ⟨_, hy, _⟩ | ⟨_, c, hc, hf, rfl⟩
      · exact absurd hl (Ziq hy)
      · obtain ⟨hmu, hcr⟩ := (Zep hf hc).2.1 hl
        rcases Zcb hr with h | h | h
        · exact absurd h.1 (by simp)
        · obtain ⟨_, _, _, _, _, _, hcc, _⟩ := h
          rw [hcr] at hcc
          have hk3 : KD (enc u) = 3 := by
            rcases hcc with hcc | hcc
            · exact absurd hcc (by simp)
            · exact hcc
          obtain ⟨m', hm', hk'⟩ := Zhb (b := enc u) (by rw [hk3]; decide)
          exact ⟨m', hm', Zk8 hmu, hbu, .inl ⟨rfl, by rw [hk', hk3], by omega⟩⟩
        · exact absurd h.1 (by simp)
  · have hit2 : t.its.length = 17 := by rw [hit, List.length_append, h16]; rfl
    rw [hit] at hu
    rcases List.mem_append.1 hu with hu | hu
    · obtain ⟨r, hr1, hr2⟩ := Zj2 hk u hu
      obtain ⟨hmu, hcr⟩ := (Zep (hfs u hu) hr2).2.1 hl
      rcases Zcb hr with h | h | h
      · exact absurd h.1 (by simp)
      · exact absurd h.1 (by simp)
      · obtain ⟨_, _, _, _, _, _, hall, _⟩ := h
        have := hall r hr1
        rw [hcr] at this
        rcases Zcm this with h | h | h
        · exact absurd h.1 (by show ¬ (1 : Int) = 0; decide)
        · exact absurd h.1 (by show ¬ (1 : Int) = 2; decide)
        · obtain ⟨m', hm', _⟩ := Zhb (b := enc u) h.2.2.2
          exact ⟨m', hm', Zk8 hmu, hbu, .inr ⟨rfl, by omega⟩⟩
    · simp only [List.mem_cons, List.not_mem_nil, or_false] at hu
      subst hu
      exact absurd hl (Ziq hy)
theorem Zip {t : T} (hb : isB i) (hm : ND i = some m) (hd' : decP i = .ok t) (hD : D ≤ 7) (h : ∀ u ∈ t.its, u.l = true → OkD (D + 1) u) : OkD D t := by
  obtain ⟨t', e1, hn, hr⟩ := Zel hb hm
  rw [hd'] at e1
  cases e1
  obtain ⟨l1, l2, l3⟩ := Zcp hb hd' hn
  obtain ⟨l, bs, its⟩ := t
  simp only [T.l, T.bs, T.its] at l1 l2 l3 h
  subst l1 l2
  refine Zpq hD fun u hu => ?_
  by_cases hl : u.l = true
  · exact h u hu hl
  · rw [Zc1 (Zbt l3 u hu) hl]; exact Zee _ _
theorem ok1 {t : T} (hb : isB i) (hm : ND i = some m) (hd' : decP i = .ok t) (hk : m.k = 3) (hl : i.length ≤ 16) : OkD 7 t := by
  refine Zip hb hm hd' (Nat.le_refl _) fun u hu hul => ?_
  obtain ⟨m', _, _, _, h | h⟩ := Zfw hb hm hd' hu hul
  · omega
  · omega
theorem ok2 {t : T} (hb : isB i) (hm : ND i = some m) (hd' : decP i = .ok t) (hl : i.length ≤ 16) : OkD 6 t := by
  refine Zip hb hm hd' (by omega) fun u hu hul => ?_
  obtain ⟨m', h1, h2, h3, h | h⟩ := Zfw hb hm hd' hu hul
  · exact ok1 h3 h1 h2 h.2.1 (by omega)
  · omega
theorem ok3 {t : T} (hb : isB i) (hm : ND i = some m) (hd' : decP i = .ok t) (hk : m.k = 3) (hl : i.length ≤ 33) : OkD 5 t := by
  refine Zip hb hm hd' (by omega) fun u hu hul => ?_
  obtain ⟨m', h1, h2, h3, h | h⟩ := Zfw hb hm hd' hu hul
  · omega
  · exact ok2 h3 h1 h2 (by omega)
theorem ok4 {t : T} (hb : isB i) (hm : ND i = some m) (hd' : decP i = .ok t) (hl : i.length ≤ 33) : OkD 4 t := by
  refine Zip hb hm hd' (by omega) fun u hu hul => ?_
  obtain ⟨m', h1, h2, h3, h | h⟩ := Zfw hb hm hd' hu hul
  · exact ok3 h3 h1 h2 h.2.1 (by omega)
  · exact (ok2 h3 h1 h2 (by omega)).mono (by omega)
theorem Zt0 (ho : okR r) (h : rrefP KD r = true) : OkD 4 (refItemP r) ∧ form (refItemP r) = true := by
  refine ⟨?_, (Zg4 (Zfx ho h).2.1).2.2⟩
  rcases Zcm h with ⟨h1, h2, h3⟩ | ⟨h1, h2⟩ | ⟨h1, h2, h3, h4⟩
  · have e : refItemP r = t0 := by unfold refItemP; rw [if_neg (by omega), if_neg (by omega)]
    rw [e]; exact Zee _ _
  · have e : refItemP r = .mk false r.d [] := by unfold refItemP; rw [if_neg (by omega), if_pos h1]
    rw [e]; exact Zee _ _
  · obtain ⟨m, hm, _⟩ := Zhb h4
    obtain ⟨t, hd', hn, hr⟩ := Zel ho.2.2 hm
    have e : refItemP r = t := by unfold refItemP; rw [if_pos h1, hd']
    rw [e]
    exact ok4 ho.2.2 hm hd' (by omega)
theorem Ze6 (bs : List Int) : form (.mk false bs []) = true := by rw [Zdv]; simp [Zcu]
theorem Zfv {bs : List Int} (h : bs.length ≤ 65536) : (enc (.mk false bs [])).length ≤ bs.length + 4 := by
  rw [Zb9, Za4, List.append_nil]
  have := Zs5 (base := baseOf false) (n := bs.length) (by omega)
  split
  · omega
  · rw [List.length_append]; omega
theorem Zqq {c : Nat} : ∀ {ts : List T}, (∀ t ∈ ts, (enc t).length ≤ c) → (encs ts).length ≤ c * ts.length
  | [], _ => by rw [Za4]; simp
  | t :: r, h => by
    have := h t (by simp)
    have := Zqq fun u hu => h u (List.mem_cons_of_mem _ hu)
    rw [Za9, List.length_append, List.length_cons, Nat.mul_succ]; omega
theorem Zfb (h : ∀ t ∈ ts, OkD 4 t ∧ form t = true) (hl : (encs ts).length ≤ 65536) : (mP (.mk true [] ts)).2 = 0 ∧ (enc (.mk true [] ts)).length ≤ 65540 := by
  have he : enc (.mk true [] ts) = hd 192 (encs ts).length ++ encs ts := encL (t := .mk true [] ts) rfl rfl
  have hle := Zs5 (base := 192) (n := (encs ts).length) (by omega)
  have hlen : (enc (.mk true [] ts)).length ≤ 65540 := by rw [he, List.length_append]; omega
  refine ⟨Zxs (D := 3) (Zpq (by omega) fun t ht => (h t ht).1) ?_ (by omega), hlen⟩
  rw [Zdv, if_pos rfl, Zml fun t ht => (h t ht).2]
  rfl
theorem Zjp {p : List Int} (leaf : Bool) (h : p.length ≤ 64) : (packP p leaf).1.length ≤ 33 := by
  unfold packP
  split
  · dsimp only; rw [Ni.pack_len]; omega
  · simp
theorem Zjq (ho : okN n) (h : NR n = true) : (mP (itemP n)).2 = 0 ∧ nodeOfP (itemP n) = some n ∧ (enc (itemP n)).length ≤ 65540 := by
  obtain ⟨ho1, ho2, ho3, ho4⟩ := ho
  rcases Zcb h with ⟨hk, h1, h2, h3, h4, h5, h6, h7⟩ | ⟨hk, h1, h2, h3, h4, h5, h6, h7⟩ | ⟨hk, h1, h2, h3, h4, h5, h6, h7⟩
  · have e : itemP n = .mk true [] [.mk false (packP n.p true).1 [], .mk false n.v []] := by unfold itemP; rw [if_neg (by omega), if_pos hk]
    rw [e]
    have hpl := Zjp true h1
    obtain ⟨r1, r2⟩ := Zfb (ts := [.mk false (packP n.p true).1 [], .mk false n.v []]) (fun t ht => by
      simp only [List.mem_cons, List.not_mem_nil, or_false] at ht
      rcases ht with rfl | rfl <;> exact ⟨Zee _ _, Ze6 _⟩) (by
      have a1 := Zfv (bs := (packP n.p true).1) (by omega)
      have a2 := Zfv (bs := n.v) (by omega)
      rw [Za9, Za9, Za4, List.length_append, List.length_append, List.length_nil]; omega)
    refine ⟨r1, ?_, r2⟩
    unfold nodeOfP
    rw [if_pos (by rfl)]
    have hu : unpP (packP n.p true).1 = (n.p, true, 0) := by rw [Ni.packP_yes h2]; exact Ni.unp_pack ho1 h2
    unfold pathP
    show (if (false = true) ∨ (unpP (packP n.p true).1).2.2 ≠ 0 then none else if (unpP (packP n.p true).1).2.1 = true then (if false = true then none else some (⟨1, (unpP (packP n.p true).1).1, n.v, r0, []⟩ : PN)) else _) = some n
    rw [hu, if_neg (by simp), if_pos rfl, if_neg (by simp)]
    have hc : n.c = r0 := by
      rcases Zcm h5 with c | c | c
      · exact PR.ext c.1 c.2.1 c.2.2
      · omega
      · omega
    exact congrArg some (PN.ext hk.symm rfl rfl hc.symm h7.symm)
  · have e : itemP n = .mk true [] [.mk false (packP n.p false).1 [], refItemP n.c] := by unfold itemP; rw [if_neg (by omega), if_neg (by omega)]
    rw [e]
    have hpl := Zjp false h2
    obtain ⟨b1, b2, b3⟩ := Zfx ho3 h5
    obtain ⟨r1, r2⟩ := Zfb (ts := [.mk false (packP n.p false).1 [], refItemP n.c]) (fun t ht => by
      simp only [List.mem_cons, List.not_mem_nil, or_false] at ht
      rcases ht with rfl | rfl
      · exact ⟨Zee _ _, Ze6 _⟩
      · exact Zt0 ho3 h5) (by
      have a1 := Zfv (bs := (packP n.p false).1) (by omega)
      rw [Za9, Za9, Za4, List.length_append, List.length_append, List.length_nil]; omega)
    refine ⟨r1, ?_, r2⟩
    unfold nodeOfP
    rw [if_pos (by rfl)]
    have hu : unpP (packP n.p false).1 = (n.p, false, 0) := by rw [Ni.packP_yes h3]; exact Ni.unp_pack ho1 h3
    unfold pathP
    show (if (false = true) ∨ (unpP (packP n.p false).1).2.2 ≠ 0 then none else if (unpP (packP n.p false).1).2.1 = true then _ else match refOfP (refItemP n.c) with
      | none => none
      | some c => some (⟨2, (unpP (packP n.p false).1).1, [], c, []⟩ : PN)) = some n
    rw [hu, b1, if_neg (by simp), if_neg (by simp)]
    exact congrArg some (PN.ext hk.symm rfl h4.symm rfl h7.symm)
  · have e : itemP n = .mk true [] (n.ks.map refItemP ++ [.mk false n.v []]) := by unfold itemP; rw [if_pos hk]
    rw [e]
    have hmk : ∀ t ∈ n.ks.map refItemP, ∃ r ∈ n.ks, refItemP r = t := fun t ht => List.mem_map.1 ht
    obtain ⟨r1, r2⟩ := Zfb (ts := n.ks.map refItemP ++ [.mk false n.v []]) (fun t ht => by
      rcases List.mem_append.1 ht with ht | ht
      · obtain ⟨r, hr, rfl⟩ := hmk t ht
        exact Zt0 (ho4 r hr) (h6 r hr)
      · simp only [List.mem_cons, List.not_mem_nil, or_false] at ht
        subst ht
        exact ⟨Zee _ _, Ze6 _⟩) (by
      have a1 := Zfv (bs := n.v) (by omega)
      have a2 := Zqq (c := 36) (ts := n.ks.map refItemP) (fun t ht => by
        obtain ⟨r, hr, rfl⟩ := hmk t ht
        exact (Zfx (ho4 r hr) (h6 r hr)).2.2)
      rw [List.length_map, h5] at a2
      rw [Zej, Za9, Za4, List.length_append, List.length_append, List.length_nil]; omega)
    refine ⟨r1, ?_, r2⟩
    unfold nodeOfP
    have hl17 : (n.ks.map refItemP ++ [T.mk false n.v []]).length = 17 := by simp [h5]
    rw [show (T.mk true [] (n.ks.map refItemP ++ [T.mk false n.v []])).its = n.ks.map refItemP ++ [T.mk false n.v []] from rfl, if_neg (by omega), if_pos hl17]
    have hl16 : (n.ks.map refItemP).length = 16 := by simp [h5]
    rw [List.take_append_of_le_length (by omega), List.take_of_length_le (by omega), List.getD, List.getElem?_append_right (by omega), hl16]
    unfold branchP
    rw [Zj3 fun r hr => (Zfx (ho4 r hr) (h6 r hr)).1]
    show (if (false = true) then none else some (⟨3, [], n.v, r0, n.ks⟩ : PN)) = some n
    rw [if_neg (by simp)]
    have hc : n.c = r0 := by
      rcases Zcm h3 with c | c | c
      · exact PR.ext c.1 c.2.1 c.2.2
      · omega
      · omega
    exact congrArg some (PN.ext hk.symm h1.symm rfl hc.symm rfl)
def NE (n : PN) : List Int := enc (itemP n)
theorem Zgo (hb : isB b) (h : ND b = some n) : NR n = true ∧ NE n = b ∧ decP b = .ok (itemP n) := by
  obtain ⟨t, hd', hn, hr⟩ := Zel hb h
  obtain ⟨e1, e2, e3⟩ := Zff hb hd'
  obtain ⟨l1, l2, l3⟩ := Zcp hb hd' hn
  have he : itemP n = t := by
    obtain ⟨l, bs, its⟩ := t
    simp only [T.l, T.bs, T.its] at l1 l2 l3
    subst l1 l2
    have hbx : ∀ u ∈ its, isB (enc u) := fun u hu => Zk7 hb hd' hu
    rcases Zdt (t := .mk true [] its) l3 hn with ⟨x, y, hit, hx, hxe, hc⟩ | ⟨ts, y, ks, hit, h16, hy, hk, hfs, rfl⟩
    · simp only [T.its] at hit
      have hxb : isB x.bs := by
        have := hbx x (by rw [hit]; simp)
        intro z hz
        refine this z ?_
        rw [hx, Zb9, Za4, List.append_nil]
        split
        · exact hz
        · exact List.mem_append_right _ hz
      have hpu := Ni.pack_unp hxb hxe
      rcases hc with ⟨hlf, hy, rfl⟩ | ⟨hlf, c, hc, hf, rfl⟩
      · unfold itemP
        rw [if_neg (by show ¬ (1 : Int) = 3; decide), if_pos rfl]
        rw [hlf] at hpu
        show T.mk true [] [.mk false (packP (unpP x.bs).1 true).1 [], .mk false y.bs []] = _
        rw [hpu, hit, ← hx, ← hy]
      · unfold itemP
        rw [if_neg (by show ¬ (2 : Int) = 3; decide), if_neg (by show ¬ (2 : Int) = 1; decide)]
        rw [hlf] at hpu
        show T.mk true [] [.mk false (packP (unpP x.bs).1 false).1 [], refItemP c] = _
        rw [hpu, hit, ← hx, (Zep hf hc).1]
    · simp only [T.its] at hit
      unfold itemP
      rw [if_pos rfl]
      show T.mk true [] (ks.map refItemP ++ [.mk false y.bs []]) = _
      rw [Zj0 hfs hk, hit, ← hy]
  refine ⟨hr, ?_, by rw [he]; exact hd'⟩
  unfold NE
  rw [he, e1]
theorem Zir (hb : isB b) (h : ND b = some n) : okN n := by
  obtain ⟨t, hd', hn, hr⟩ := Zel hb h
  have hs := Zes hb hd' hn
  obtain ⟨l1, l2, l3⟩ := Zcp hb hd' hn
  have htx : ∀ u ∈ t.its, u = .mk false u.bs [] → isB u.bs := fun u hu he z hz => by
    refine Zk7 hb hd' hu z ?_
    rw [he, Zb9, Za4, List.append_nil]
    split
    · exact hz
    · exact List.mem_append_right _ hz
  have hz : isB z32 ∧ z32.length = 32 := ⟨fun x hx => by rw [z32, List.mem_replicate] at hx; omega, by simp [z32]⟩
  have hro : ∀ u r, u ∈ t.its → refOfP u = some r → isB r.d ∧ r.d.length = 32 := fun u r hu h => by
    by_cases hl : u.l = true
    · rw [((Zep (Zbt l3 u hu) h).2.1 hl).2]; exact hz
    · have ht := Zc1 (Zbt l3 u hu) hl
      unfold refOfP at h
      rw [if_neg hl] at h
      split at h
      · cases h; exact hz
      · split at h
        · rename_i h32
          cases h; exact ⟨htx u hu ht, h32⟩
        · cases h
  rcases Zdt l3 hn with ⟨x, y, hit, hx, hxe, hc⟩ | ⟨ts, y, ks, hit, h16, hy, hk, hfs, rfl⟩
  · have mx : x ∈ t.its := by rw [hit]; simp
    have my : y ∈ t.its := by rw [hit]; simp
    have hp : isB (unpP x.bs).1 := Ni.unp_isB (htx x mx hx)
    rcases hc with ⟨hlf, hy, rfl⟩ | ⟨hlf, c, hc, hf, rfl⟩
    · exact ⟨hp, htx y my hy, ⟨hz.1, hz.2, fun x hx => by cases hx⟩, fun r hr => by cases hr⟩
    · have := hro y c my hc
      exact ⟨hp, (fun x hx => by cases hx), ⟨this.1, this.2, (hs c (.inl rfl)).2⟩, fun r hr => by cases hr⟩
  · refine ⟨(fun x hx => by cases hx), htx y (by rw [hit]; simp) hy, ⟨hz.1, hz.2, fun x hx => by cases hx⟩, fun r hr => ?_⟩
    obtain ⟨u, hu, e⟩ := (Ziw hk).2 r hr
    have := hro u r (by rw [hit]; simp [hu]) e
    exact ⟨this.1, this.2, (hs r (.inr hr)).2⟩
end Go.Proofs.YtchgejomcgoaeaaGreat
namespace Go.Proofs.YtchgejomcgoaeaaGreat.Di
open Go.RowKit
structure S4 where
  a : Int
  b : Int
  c : Int
  d : Int
def wr (x : Int) : Int := IntKind.u64.wrap x
def rotl (x k : Int) : Int := bits BinOp.or IntKind.u64 (IntKind.u64.wrap (x * 2 ^ k.toNat)) (x / 2 ^ (64 - k).toNat)
def xr (x y : Int) : Int := bits BinOp.xor IntKind.u64 x y
def rnd (s : S4) (x : Int) : S4 :=
  let a := wr (s.a + wr (s.b + x))
  let d := rotl (xr s.d a) 32
  let c := wr (s.c + d)
  let b := rotl (xr s.b c) 24
  let a := wr (a + b)
  let d := rotl (xr d a) 16
  let c := wr (c + d)
  let b := rotl (xr b c) 63
  ⟨b, c, d, a⟩
def xor4 (s m : S4) : S4 := ⟨xr s.a m.a, xr s.b m.b, xr s.c m.c, xr s.d m.d⟩
def kk : Int := 11400714819323198485
def stir (s m : S4) : S4 :=
  let s := rnd s (wr (m.a + wr (1 * kk)))
  let s := rnd s (wr (m.b + wr (2 * kk)))
  let s := rnd s (wr (m.c + wr (3 * kk)))
  let s := rnd s (wr (m.d + wr (4 * kk)))
  let s := rnd s (wr (m.a + wr (5 * kk)))
  let s := rnd s (wr (m.b + wr (6 * kk)))
  let s := rnd s (wr (m.c + wr (7 * kk)))
  rnd s (wr (m.d + wr (8 * kk)))
def mix (s m : S4) : S4 := xor4 (stir (xor4 s m) m) s
theorem b32 : bits BinOp.and IntKind.u64 32 63 = 32 := by decide
theorem b24 : bits BinOp.and IntKind.u64 24 63 = 24 := by decide
theorem b16 : bits BinOp.and IntKind.u64 16 63 = 16 := by decide
theorem b63 : bits BinOp.and IntKind.u64 63 63 = 63 := by decide
set_option maxHeartbeats 400000 in
theorem rotc (x : Int) (w : World) (k : Int) (hk0 : 0 ≤ k) (hk1 : k < 64) (hkk : bits BinOp.and IntKind.u64 k 63 = k) :
    Calls Tryz.prog 124 #[.int .u64 x, .int .i64 k] w fun e w' => e = .returned (.int .u64 (rotl x k)) ∧ w' = w := by
  go_enter Tryz.func124, Tryz.ntmps124
  go_wp2
  go_ret
  exact ⟨rfl, rfl⟩

set_option maxHeartbeats 400000 in
theorem Zcc (a b c d x : Int) (w : World) :
    Calls Tryz.prog 121 #[.agg #[.int .u64 a, .int .u64 b, .int .u64 c, .int .u64 d], .int .u64 x] w fun e w' => (∃ a' b' c' d', e = .returned (.agg #[.int .u64 a', .int .u64 b', .int .u64 c', .int .u64 d']) ∧ Hid (S4.mk a' b' c' d' = rnd ⟨a, b, c, d⟩ x)) ∧ Below w.heap.size w w' := by
  go_enter Tryz.func121, Tryz.ntmps121
  go_wp2_with fail
  go_quiet (fail)
  go_wp2_with (first | (go_at_call 124; refine (rotc _ _ _ (by omega) (by omega) (by first | exact b32 | exact b24 | exact b16 | exact b63)).mono ?_; rintro e w' ⟨rfl, rfl⟩))
  go_returns
  refine ⟨⟨_, _, _, _, rfl, rfl⟩, ?_⟩
  repeat' (first | refine Below.setCell ?_ (by simp <;> omega) _ | refine below_drewN ?_ _ | refine Below.alloc ?_ (by simp <;> omega) _ | exact Below.refl _ _)

set_option maxHeartbeats 400000 in
theorem Zny (a b c d x y z u : Int) (w : World) :
    Calls Tryz.prog 109 #[.agg #[.int .u64 a, .int .u64 b, .int .u64 c, .int .u64 d], .agg #[.int .u64 x, .int .u64 y, .int .u64 z, .int .u64 u]] w fun e w' => (∃ a' b' c' d', e = .returned (.agg #[.int .u64 a', .int .u64 b', .int .u64 c', .int .u64 d']) ∧ Hid (S4.mk a' b' c' d' = xor4 ⟨a, b, c, d⟩ ⟨x, y, z, u⟩)) ∧ Below w.heap.size w w' := by
  have i0 : ∀ (w : World) (x0 x1 x2 x3 : Value), (Instr.index 99 (.agg #[x0, x1, x2, x3]) (.int .i64 0)).run Tryz.prog w = .ok x0 w := fun _ _ _ _ _ => by kernel_rfl
  have i1 : ∀ (w : World) (x0 x1 x2 x3 : Value), (Instr.index 99 (.agg #[x0, x1, x2, x3]) (.int .i64 1)).run Tryz.prog w = .ok x1 w := fun _ _ _ _ _ => by kernel_rfl
  have i2 : ∀ (w : World) (x0 x1 x2 x3 : Value), (Instr.index 99 (.agg #[x0, x1, x2, x3]) (.int .i64 2)).run Tryz.prog w = .ok x2 w := fun _ _ _ _ _ => by kernel_rfl
  have i3 : ∀ (w : World) (x0 x1 x2 x3 : Value), (Instr.index 99 (.agg #[x0, x1, x2, x3]) (.int .i64 3)).run Tryz.prog w = .ok x3 w := fun _ _ _ _ _ => by kernel_rfl
  go_enter Tryz.func109, Tryz.ntmps109
  go_wp2
  go_rounds 5
  go_returns
  refine ⟨⟨_, _, _, _, rfl, rfl⟩, ?_⟩
  repeat' (first | refine Below.setCell ?_ (by simp <;> omega) _ | refine below_drewN ?_ _ | refine Below.alloc ?_ (by simp <;> omega) _ | exact Below.refl _ _)

structure Rows3 (n : Nat) (w0 w : World) (r2 r3 r4 : Array Value) : Prop where
  h2 : w.heap[n]? = some (.cells r2 99)
  h3 : w.heap[n + 1]? = some (.cells r3 99)
  h4 : w.heap[n + 1 + 1]? = some (.cells r4 99)
  bel : Below n w0 w
theorem Hid.mk {p : Prop} (h : p) : Hid p := h
theorem lt_of_get {α : Type} {xs : Array α} {i : Nat} {x : α} (h : xs[i]? = some x) : i < xs.size := (Array.getElem?_eq_some_iff.1 h).1
theorem Rows3.call {n : Nat} {w0 v w1 : World} {r2 r3 r4 : Array Value} (h : Rows3 n w0 v r2 r3 r4) (hb : Below v.heap.size v w1) : Rows3 n w0 w1 r2 r3 r4 := by
  have l := lt_of_get h.h4
  exact ⟨(hb.block _ (by omega)).trans h.h2, (hb.block _ (by omega)).trans h.h3, (hb.block _ (by omega)).trans h.h4, h.bel.trans (hb.mono (by omega))⟩
theorem Zbn {w : World} {g t : Nat} {x0 x1 x2 x3 : Value} (h : w.heap[g]? = some (.cells #[x0, x1, x2, x3] t)) :
    w.cell? ⟨g, 0, none⟩ = some x0 ∧ w.cell? ⟨g, 1, none⟩ = some x1 ∧ w.cell? ⟨g, 2, none⟩ = some x2 ∧ w.cell? ⟨g, 3, none⟩ = some x3 ∧ ∀ o, w.frozen? ⟨g, o, none⟩ = false :=
  ⟨by simp [World.cell?, h], by simp [World.cell?, h], by simp [World.cell?, h], by simp [World.cell?, h], fun o => frozen_of_row w g o _ t h⟩
theorem put4 {w : World} {g t : Nat} {x0 x1 x2 x3 : Value} (h : w.heap[g]? = some (.cells #[x0, x1, x2, x3] t)) (a b c d : Value) :
    ((((w.setCell ⟨g, 0, none⟩ a).setCell ⟨g, 1, none⟩ b).setCell ⟨g, 2, none⟩ c).setCell ⟨g, 3, none⟩ d).heap[g]? = some (.cells #[a, b, c, d] t) := by
  have h1 := heap_setCell_same w g 0 _ t a h
  have h2 := heap_setCell_same _ g 1 _ t b h1
  have h3 := heap_setCell_same _ g 2 _ t c h2
  have h4 := heap_setCell_same _ g 3 _ t d h3
  simpa using h4
theorem Zer {w : World} {g k : Nat} (hk : k ≠ g) (a b c d : Value) :
    ((((w.setCell ⟨g, 0, none⟩ a).setCell ⟨g, 1, none⟩ b).setCell ⟨g, 2, none⟩ c).setCell ⟨g, 3, none⟩ d).heap[k]? = w.heap[k]? := by
  rw [heap_setCell_other _ _ _ _ hk, heap_setCell_other _ _ _ _ hk, heap_setCell_other _ _ _ _ hk, heap_setCell_other _ _ _ _ hk]
theorem Zh7 {B : Nat} {w0 w : World} {g : Nat} (h : Below B w0 w) (hg : B ≤ g) (a b c d : Value) :
    Below B w0 ((((w.setCell ⟨g, 0, none⟩ a).setCell ⟨g, 1, none⟩ b).setCell ⟨g, 2, none⟩ c).setCell ⟨g, 3, none⟩ d) :=
  (((h.setCell hg a).setCell hg b).setCell hg c).setCell hg d
theorem Rows3.put {n : Nat} {w0 w : World} {x0 x1 x2 x3 : Value} {r3 r4 : Array Value} (h : Rows3 n w0 w #[x0, x1, x2, x3] r3 r4) (a b c d : Value) :
    Rows3 n w0 ((((w.setCell ⟨n, 0, none⟩ a).setCell ⟨n, 1, none⟩ b).setCell ⟨n, 2, none⟩ c).setCell ⟨n, 3, none⟩ d) #[a, b, c, d] r3 r4 :=
  ⟨put4 h.h2 a b c d, (Zer (by omega) a b c d).trans h.h3, (Zer (by omega) a b c d).trans h.h4, Zh7 h.bel (Nat.le_refl _) a b c d⟩
theorem Zjd (w : World) (A B C : Array Value) : Rows3 w.heap.size w (((w.alloc (.cells A 99)).alloc (.cells B 99)).alloc (.cells C 99)) A B C := by
  have s1 : (w.alloc (.cells A 99)).heap.size = w.heap.size + 1 := by simp
  have s2 : ((w.alloc (.cells A 99)).alloc (.cells B 99)).heap.size = w.heap.size + 1 + 1 := by simp
  have h1 := heap_alloc_new w (.cells A 99)
  have h2 := heap_alloc_new (w.alloc (.cells A 99)) (.cells B 99)
  have h3 := heap_alloc_new ((w.alloc (.cells A 99)).alloc (.cells B 99)) (.cells C 99)
  rw [s1] at h2
  rw [s2] at h3
  exact ⟨by rw [Below.heap_alloc _ _ _ (by omega), Below.heap_alloc _ _ _ (by omega)]; exact h1, by rw [Below.heap_alloc _ _ _ (by omega)]; exact h2, h3,
   (((Below.refl _ _).alloc (Nat.le_refl _) _).alloc (by omega) _).alloc (by omega) _⟩
theorem Rows3.drew {n : Nat} {w0 w : World} {r2 r3 r4 : Array Value} (h : Rows3 n w0 w r2 r3 r4) : Rows3 n w0 w.drew r2 r3 r4 := ⟨h.h2, h.h3, h.h4, h.bel.drew⟩
theorem Rows3.alloc {n : Nat} {w0 w : World} {r2 r3 r4 : Array Value} (h : Rows3 n w0 w r2 r3 r4) (o : Obj) : Rows3 n w0 (w.alloc o) r2 r3 r4 := by
  have l := lt_of_get h.h4
  exact ⟨(Below.heap_alloc _ _ _ (by omega)).trans h.h2, (Below.heap_alloc _ _ _ (by omega)).trans h.h3, (Below.heap_alloc _ _ _ (by omega)).trans h.h4, h.bel.alloc (by omega) _⟩
theorem Rows3.size {n : Nat} {w0 w : World} {r2 r3 r4 : Array Value} (h : Rows3 n w0 w r2 r3 r4) : n + 1 + 1 < w.heap.size := lt_of_get h.h4
theorem Rows3.putAt {n : Nat} {w0 w : World} {r2 r3 r4 : Array Value} (h : Rows3 n w0 w r2 r3 r4) {g : Nat} (hg : n + 1 + 1 < g) (a b c d : Value) :
    Rows3 n w0 ((((w.setCell ⟨g, 0, none⟩ a).setCell ⟨g, 1, none⟩ b).setCell ⟨g, 2, none⟩ c).setCell ⟨g, 3, none⟩ d) r2 r3 r4 :=
  ⟨(Zer (by omega) a b c d).trans h.h2, (Zer (by omega) a b c d).trans h.h3, (Zer (by omega) a b c d).trans h.h4, Zh7 h.bel (by omega) a b c d⟩
theorem Below.row {W w1 : World} (hb : Below W.heap.size W w1) {g : Nat} {o : Obj} (h : W.heap[g]? = some o) : w1.heap[g]? = some o := (hb.block g (lt_of_get h)).trans h
theorem Zje (w : World) (A B C D : Obj) : Hid ((((((w.alloc A).alloc B).alloc C).alloc D).heap[w.heap.size + 1 + 1 + 1]?) = some D) := by
  have s3 : (((w.alloc A).alloc B).alloc C).heap.size = w.heap.size + 1 + 1 + 1 := by simp
  have h := heap_alloc_new (((w.alloc A).alloc B).alloc C) D
  rw [s3] at h
  exact h
theorem Zu5 {a b c d x y z u : Int} {s1 s2 s3 s4 s5 s6 s7 s8 : S4}
    (h1 : s1 = rnd ⟨a, b, c, d⟩ (IntKind.u64.wrap (x + 11400714819323198485)))
    (h2 : s2 = rnd s1 (IntKind.u64.wrap (y + IntKind.u64.wrap 22801429638646396970)))
    (h3 : s3 = rnd s2 (IntKind.u64.wrap (z + IntKind.u64.wrap 34202144457969595455)))
    (h4 : s4 = rnd s3 (IntKind.u64.wrap (u + IntKind.u64.wrap 45602859277292793940)))
    (h5 : s5 = rnd s4 (IntKind.u64.wrap (x + IntKind.u64.wrap 57003574096615992425)))
    (h6 : s6 = rnd s5 (IntKind.u64.wrap (y + IntKind.u64.wrap 68404288915939190910)))
    (h7 : s7 = rnd s6 (IntKind.u64.wrap (z + IntKind.u64.wrap 79805003735262389395)))
    (h8 : s8 = rnd s7 (IntKind.u64.wrap (u + IntKind.u64.wrap 91205718554585587880))) : s8 = stir ⟨a, b, c, d⟩ ⟨x, y, z, u⟩ := by
  rw [h8, h7, h6, h5, h4, h3, h2, h1]
  have e1 : wr (1 * kk) = 11400714819323198485 := by unfold wr kk; rw [IntKind.wrap_u64]; rfl
  unfold stir
  rw [e1]
  rfl
set_option maxHeartbeats 4000000 in
theorem Zrz (a b c d x y z u : Int) (w : World) :
    Calls Tryz.prog 108 #[.agg #[.int .u64 a, .int .u64 b, .int .u64 c, .int .u64 d], .agg #[.int .u64 x, .int .u64 y, .int .u64 z, .int .u64 u]] w fun e w' => (∃ a' b' c' d', e = .returned (.agg #[.int .u64 a', .int .u64 b', .int .u64 c', .int .u64 d']) ∧ Hid (S4.mk a' b' c' d' = stir ⟨a, b, c, d⟩ ⟨x, y, z, u⟩)) ∧ Below w.heap.size w w' := by
  have i0 : ∀ (w : World) (x0 x1 x2 x3 : Value), (Instr.index 99 (.agg #[x0, x1, x2, x3]) (.int .i64 0)).run Tryz.prog w = .ok x0 w := fun _ _ _ _ _ => by kernel_rfl
  have i1 : ∀ (w : World) (x0 x1 x2 x3 : Value), (Instr.index 99 (.agg #[x0, x1, x2, x3]) (.int .i64 1)).run Tryz.prog w = .ok x1 w := fun _ _ _ _ _ => by kernel_rfl
  have i2 : ∀ (w : World) (x0 x1 x2 x3 : Value), (Instr.index 99 (.agg #[x0, x1, x2, x3]) (.int .i64 2)).run Tryz.prog w = .ok x2 w := fun _ _ _ _ _ => by kernel_rfl
  have i3 : ∀ (w : World) (x0 x1 x2 x3 : Value), (Instr.index 99 (.agg #[x0, x1, x2, x3]) (.int .i64 3)).run Tryz.prog w = .ok x3 w := fun _ _ _ _ _ => by kernel_rfl
  have R0 := Zjd w #[.int .u64 a, .int .u64 b, .int .u64 c, .int .u64 d] #[.int .u64 x, .int .u64 y, .int .u64 z, .int .u64 u] #[.int .u64 0, .int .u64 0, .int .u64 0, .int .u64 0]
  go_enter Tryz.func108, Tryz.ntmps108
  go_wp2
  go_step3
  go_wp2
  go_step3
  go_wp2
  refine wp_loop_rounds 2 ?_
  rw [rounds_succ]
  go_wp2
  refine wp_loop_rounds 5 ?_
  rw [rounds_succ]
  go_wp2_with fail
  refine (Zcc _ _ _ _ _ _).mono ?_
  rintro e w1 ⟨⟨a1, b1, c1, d1, rfl, H1⟩, hb1⟩
  have S1 := Rows3.call R0 hb1
  obtain ⟨p1, q1, r1, s1, f1⟩ := Zbn S1.h2
  clear hb1
  go_wp2_with fail
  have R1 := Rows3.put S1 (.int .u64 a1) (.int .u64 b1) (.int .u64 c1) (.int .u64 d1)
  rw [rounds_succ]
  go_wp2_with fail
  refine (Zcc _ _ _ _ _ _).mono ?_
  rintro e w2 ⟨⟨a2, b2, c2, d2, rfl, H2⟩, hb2⟩
  clear p1 q1 r1 s1 f1
  have S2 := Rows3.call R1 hb2
  obtain ⟨p2, q2, r2, s2, f2⟩ := Zbn S2.h2
  clear hb2
  go_wp2_with fail
  have R2 := Rows3.put S2 (.int .u64 a2) (.int .u64 b2) (.int .u64 c2) (.int .u64 d2)
  rw [rounds_succ]
  go_wp2_with fail
  refine (Zcc _ _ _ _ _ _).mono ?_
  rintro e w3 ⟨⟨a3, b3, c3, d3, rfl, H3⟩, hb3⟩
  clear p2 q2 r2 s2 f2
  have S3 := Rows3.call R2 hb3
  obtain ⟨p3, q3, r3, s3, f3⟩ := Zbn S3.h2
  clear hb3
  go_wp2_with fail
  have R3 := Rows3.put S3 (.int .u64 a3) (.int .u64 b3) (.int .u64 c3) (.int .u64 d3)
  rw [rounds_succ]
  go_wp2_with fail
  refine (Zcc _ _ _ _ _ _).mono ?_
  rintro e w4 ⟨⟨a4, b4, c4, d4, rfl, H4⟩, hb4⟩
  clear p3 q3 r3 s3 f3
  have S4 := Rows3.call R3 hb4
  obtain ⟨p4, q4, r4, s4, f4⟩ := Zbn S4.h2
  clear hb4
  go_wp2_with fail
  have R4 := Rows3.put S4 (.int .u64 a4) (.int .u64 b4) (.int .u64 c4) (.int .u64 d4)
  rw [rounds_succ]
  go_wp2_with fail
  rw [rounds_succ]
  obtain ⟨p0, q0, r0, s0, _⟩ := Zbn R4.h3
  go_wp2_with fail
  refine wp_loop_rounds 5 ?_
  rw [rounds_succ]
  go_wp2_with fail
  refine (Zcc _ _ _ _ _ _).mono ?_
  rintro e w5 ⟨⟨a5, b5, c5, d5, rfl, H5⟩, hb5⟩
  clear p4 q4 r4 s4 f4
  clear p0 q0 r0 s0
  have S5 := Rows3.call R4 hb5
  obtain ⟨p5, q5, r5, s5, f5⟩ := Zbn S5.h2
  clear hb5
  go_wp2_with fail
  have R5 := Rows3.put S5 (.int .u64 a5) (.int .u64 b5) (.int .u64 c5) (.int .u64 d5)
  rw [rounds_succ]
  go_wp2_with fail
  refine (Zcc _ _ _ _ _ _).mono ?_
  rintro e w6 ⟨⟨a6, b6, c6, d6, rfl, H6⟩, hb6⟩
  clear p5 q5 r5 s5 f5
  have S6 := Rows3.call R5 hb6
  obtain ⟨p6, q6, r6, s6, f6⟩ := Zbn S6.h2
  clear hb6
  go_wp2_with fail
  have R6 := Rows3.put S6 (.int .u64 a6) (.int .u64 b6) (.int .u64 c6) (.int .u64 d6)
  rw [rounds_succ]
  go_wp2_with fail
  refine (Zcc _ _ _ _ _ _).mono ?_
  rintro e w7 ⟨⟨a7, b7, c7, d7, rfl, H7⟩, hb7⟩
  clear p6 q6 r6 s6 f6
  have S7 := Rows3.call R6 hb7
  obtain ⟨p7, q7, r7, s7, f7⟩ := Zbn S7.h2
  clear hb7
  go_wp2_with fail
  have R7 := Rows3.put S7 (.int .u64 a7) (.int .u64 b7) (.int .u64 c7) (.int .u64 d7)
  rw [rounds_succ]
  go_wp2_with fail
  refine (Zcc _ _ _ _ _ _).mono ?_
  rintro e w8 ⟨⟨a8, b8, c8, d8, rfl, H8⟩, hb8⟩
  clear p7 q7 r7 s7 f7
  have S8 := Rows3.call R7 hb8
  obtain ⟨p8, q8, r8, s8, f8⟩ := Zbn S8.h2
  clear hb8
  obtain ⟨p9, q9, r9, s9, f9⟩ := Zbn S8.h4
  go_wp2_with fail
  rw [Exit.noGoto_ret]
  have T8 := Rows3.put S8 (.int .u64 a8) (.int .u64 b8) (.int .u64 c8) (.int .u64 d8)
  have hrow := put4 T8.h4 (.int .u64 a8) (.int .u64 b8) (.int .u64 c8) (.int .u64 d8)
  refine bodyPost_ret (results_cell_row Tryz.results108 _ _ (w.heap.size + 1 + 1) 99 #[.int .u64 a8, .int .u64 b8, .int .u64 c8, .int .u64 d8] (0, 0) _ rfl hrow Tryz.underlying99 rfl (by kernel_rfl)) rfl ?_
  exact ⟨⟨_, _, _, _, rfl, Zu5 H1.out H2.out H3.out H4.out H5.out H6.out H7.out H8.out⟩, Zh7 T8.bel (by omega) _ _ _ _⟩
end Go.Proofs.YtchgejomcgoaeaaGreat.Di

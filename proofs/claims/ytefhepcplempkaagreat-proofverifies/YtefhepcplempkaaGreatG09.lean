/- Nodes and their bytes, back and forth, as plain functions: what is written is read as it was; what is read is written as the same bytes. -/
import Derived.Test.YtefhepcplempkaaGreatG08
import Derived.Deep.RegionHeld3
import Derived.Test.YtefhepcplempkaaGreatG06
set_option linter.unusedVariables false
set_option maxRecDepth 100000
namespace Go.Proofs.YtefhepcplempkaaGreat
open Ni (unpP packP rightP)
def OkD (D : Nat) (t : T) : Prop := ∀ d w, d <= D -> w + (enc t).length <= 16777215 -> (wk t d w).2 = 0 /\ (wk t d w).1 <= w + (enc t).length
theorem OkD.mono {D E : Nat} {t : T} (h : OkD D t) (he : E <= D) : OkD E t := fun d w hd hw => h d w (by omega) hw
theorem Zly (bs : List Int) : max bs.length 1 <= (enc (.mk false bs [])).length := by
 have h1 := Zie (.mk false bs [])
 have h2 := Zc5 (.mk false bs [])
 rw [show bodyOf (.mk false bs []) = bs from by rw [bodyOf, T.bs, T.its, Za2, List.append_nil]] at h2
 omega
theorem Ze0 (D : Nat) (bs : List Int) : OkD D (.mk false bs []) := fun d w hd hw => by
 have hl := Zly bs
 have hwt : wt false bs d = max bs.length 1 := by unfold wt; simp
 rw [Zjx, if_neg (by simp), if_neg (by simp [wrongForm]), hwt, if_neg (by omega), Zcc]
 exact ⟨rfl, by dsimp only; omega⟩
theorem Zuh {D : Nat} : ∀ {ts : List T}, (∀ t ∈ ts, OkD D t) -> ∀ d w, d <= D -> w + (encs ts).length <= 16777215 -> (wks ts d w).2 = 0 /\ (wks ts d w).1 <= w + (encs ts).length
 | [], _, d, w, _, _ => by rw [Zcc]; exact ⟨rfl, by simp⟩
 | t :: r, h, d, w, hd, hw => by
  rw [Za6, List.length_append] at hw ⊢
  obtain ⟨h1, h2⟩ := h t (by simp) d w hd (by omega)
  rw [Zc7, if_pos h1]
  obtain ⟨h3, h4⟩ := Zuh (fun u hu => h u (List.mem_cons_of_mem _ hu)) d (wk t d w).1 hd (by omega)
  exact ⟨h3, by omega⟩
theorem Zq4 {D : Nat} (hD : D <= 7) {ts : List T} (h : ∀ t ∈ ts, OkD (D + 1) t) : OkD D (.mk true [] ts) := fun d w hdd hw => by
 have he : (enc (.mk true [] ts)).length = (hd 192 (encs ts).length).length + (encs ts).length := by rw [encL (t := .mk true [] ts) rfl rfl, List.length_append]; rfl
 have hp := Zn2 192 (encs ts).length
 have hwt : wt true [] d <= 1 := by unfold wt; split <;> simp
 rw [Zjx, if_neg (by simp; omega), if_neg (by simp [wrongForm]), if_neg (by omega)]
 obtain ⟨h1, h2⟩ := Zuh h (d + 1) (w + wt true [] d) (by omega) (by omega)
 exact ⟨h1, by omega⟩
theorem Zxx {D : Nat} {t : T} (h : OkD D t) (hf : form t = true) (hl : (enc t).length <= 16777215) : (mP t).2 = 0 := by
 have h0 := (h 0 0 (by omega) (by omega)).1
 have hb := Zc5 t
 unfold mP
 rw [if_neg (by rw [h0]; simp), if_neg (by rw [Zhg hf]; omega)]
theorem Zrg {bs : List Int} (h : bs.length <= 65536) : (mP (.mk false bs [])).2 = 0 := by
 refine Zxx (Ze0 0 bs) (by rw [Zea]; simp [Zce]) ?_
 rw [Zch, Za2, List.append_nil]
 have := Ztx (base := baseOf false) (n := bs.length) (by omega)
 split
 ·omega
 ·rw [List.length_append]; omega
theorem Zde {dk : List Int -> Int} {r : PR} (h : rrefP dk r = true) : (r.k = 0 /\ r.d = z32 /\ r.i = []) \/ (r.k = 2 /\ r.i = []) \/ (r.k = 1 /\ r.d = z32 /\ r.i.length < 32 /\ dk r.i ≠ 0) := by
 unfold rrefP at h
 by_cases h0 : r.k = 0
 ·simp [h0] at h; exact .inl ⟨h0, h.1, h.2⟩
 ·by_cases h2 : r.k = 2
  ·simp [h2] at h; exact .inr (.inl ⟨h2, h⟩)
  ·by_cases h1 : r.k = 1
   ·simp [h1] at h; exact .inr (.inr ⟨h1, h.1.1, h.1.2, h.2⟩)
   ·simp [h0, h1, h2] at h
theorem Zdw {b : List Int} {t : T} {n : PN} (hb : isB b) (hd : decP b = .ok t) (hn : nodeOfP t = some n) : t.l = true /\ t.bs = [] /\ forms t.its = true := Zh8 (Ze5 hb hd).2.2 (Zh1 hn).1
theorem PR.ext {a b : PR} (h1 : a.k = b.k) (h2 : a.d = b.d) (h3 : a.i = b.i) : a = b := by cases a; cases b; simp_all
theorem PN.ext {a b : PN} (h1 : a.k = b.k) (h2 : a.p = b.p) (h3 : a.v = b.v) (h4 : a.c = b.c) (h5 : a.ks = b.ks) : a = b := by cases a; cases b; simp_all
theorem Zgw {r : PR} (ho : okR r) (h : rrefP KD r = true) : refOfP (refItemP r) = some r /\ (mP (refItemP r)).2 = 0 /\ (enc (refItemP r)).length <= 36 := by
 rcases Zde h with ⟨h1, h2, h3⟩ | ⟨h1, h2⟩ | ⟨h1, h2, h3, h4⟩
 ·have e : refItemP r = t0 := by unfold refItemP; rw [if_neg (by omega), if_neg (by omega)]
  rw [e]
  refine ⟨?_, Zrg (by simp), by decide +kernel⟩
  unfold refOfP
  rw [if_neg (by simp [t0, T.l]), if_pos (by rfl)]
  exact congrArg some (PR.ext h1.symm h2.symm h3.symm)
 ·have e : refItemP r = .mk false r.d [] := by unfold refItemP; rw [if_neg (by omega), if_pos h1]
  rw [e]
  have hl := ho.2.1
  refine ⟨?_, Zrg (by omega), ?_⟩
  ·unfold refOfP
   rw [if_neg (by simp [T.l]), if_neg (by show ¬ r.d.length = 0; omega), if_pos (by exact hl)]
   exact congrArg some (PR.ext h1.symm rfl h2.symm)
  ·rw [Zch, Za2, List.append_nil]
   have := Ztx (base := baseOf false) (n := r.d.length) (by omega)
   split
   ·omega
   ·rw [List.length_append]; omega
 ·obtain ⟨m, hm, _⟩ := Zil h4
  obtain ⟨t, hd, hn, hr⟩ := Zdd ho.2.2 hm
  have e : refItemP r = t := by unfold refItemP; rw [if_pos h1, hd]
  rw [e]
  obtain ⟨e1, e2, e3⟩ := Ze5 ho.2.2 hd
  refine ⟨?_, e2, by rw [e1]; omega⟩
  unfold refOfP
  rw [if_pos (Zdw ho.2.2 hd hn).1, if_pos e2, e1]
  exact congrArg some (PR.ext h1.symm h2.symm rfl)
theorem Zd4 {u : T} (hf : form u = true) (h : ¬ u.l = true) : u = .mk false u.bs [] := by
 obtain ⟨l, bs, its⟩ := u
 have hl : l = false := by simpa [T.l] using h
 subst hl
 rw [Zb3 hf]
 rfl
theorem Zgv {u : T} {r : PR} (hf : form u = true) (h : refOfP u = some r) : refItemP r = u /\ (u.l = true -> (mP u).2 = 0 /\ r = ⟨1, z32, enc u⟩) /\ (¬ u.l = true -> r.k ≠ 1) := by
 unfold refOfP at h
 by_cases hl : u.l = true
 ·rw [if_pos hl] at h
  by_cases hm : (mP u).2 = 0
  ·rw [if_pos hm] at h
   cases h
   refine ⟨?_, fun _ => ⟨hm, rfl⟩, fun h => absurd hl h⟩
   unfold refItemP
   rw [if_pos rfl, Zkj hm]
  ·rw [if_neg hm] at h; cases h
 ·rw [if_neg hl] at h
  have ht := Zd4 hf hl
  by_cases h0 : u.bs.length = 0
  ·rw [if_pos h0] at h
   cases h
   refine ⟨?_, fun h => absurd h hl, fun _ => by show (0 : Int) ≠ 1; decide⟩
   rw [ht, List.eq_nil_of_length_eq_zero h0]
   rfl
  ·rw [if_neg h0] at h
   by_cases h32 : u.bs.length = 32
   ·rw [if_pos h32] at h
    cases h
    refine ⟨?_, fun h => absurd h hl, fun _ => by show (2 : Int) ≠ 1; decide⟩
    rw [ht]
    rfl
   ·rw [if_neg h32] at h; cases h
theorem Zlt : ∀ {ks : List PR}, (∀ r ∈ ks, refOfP (refItemP r) = some r) -> kidsP (ks.map refItemP) = some ks
 | [], _ => rfl
 | r :: l, h => by rw [List.map_cons, kidsP, h r (by simp), Zlt fun x hx => h x (List.mem_cons_of_mem _ hx)]
theorem Zlq : ∀ {ts : List T} {ks : List PR}, (∀ t ∈ ts, form t = true) -> kidsP ts = some ks -> ks.map refItemP = ts
 | [], ks, _, h => by cases h; rfl
 | t :: l, ks, hf, h => by
  rw [kidsP] at h
  cases hr : refOfP t with
  | none => rw [hr] at h; cases h
  | some a =>
   rw [hr] at h
   dsimp only at h
   cases hk : kidsP l with
   | none => rw [hk] at h; cases h
   | some l' =>
    rw [hk] at h
    cases h
    rw [List.map_cons, (Zgv (hf t (by simp)) hr).1, Zlq (fun u hu => hf u (List.mem_cons_of_mem _ hu)) hk]
theorem Zg6 {n : PN} (h : NR n = true) : (n.k = 1 /\ n.p.length <= 64 /\ rightP n.p = true /\ 0 < n.v.length /\ n.v.length <= 256 /\ rrefP KD n.c = true /\ n.c.k = 0 /\ n.ks = []) ∨
  (n.k = 2 /\ 0 < n.p.length /\ n.p.length <= 64 /\ rightP n.p = true /\ n.v = [] /\ rrefP KD n.c = true /\ (n.c.k = 2 \/ KD n.c.i = 3) /\ n.ks = []) ∨
  (n.k = 3 /\ n.p = [] /\ n.v.length <= 256 /\ rrefP KD n.c = true /\ n.c.k = 0 /\ n.ks.length = 16 /\ (∀ r ∈ n.ks, rrefP KD r = true) /\ 2 <= (if 0 < n.v.length then 1 else 0) + ways n.ks) := by
 have hk := Zm1 h
 unfold NR nright rpathP rvalueP rchildP rkidsP at h
 have hch : rrefP KD n.c = true := by
  cases hq : rrefP KD n.c with
  | true => rfl
  | false => rw [hq] at h; simp at h
 rcases hk with hk | hk | hk
 ·left
  simp [hk, hch] at h
  obtain ⟨⟨⟨⟨_, h1, h2⟩, h3, h4⟩, h5⟩, h6⟩ := h
  exact ⟨hk, h1, h2, List.length_pos_iff.2 h3, h4, hch, h5, h6⟩
 ·right; left
  simp [hk, hch] at h
  obtain ⟨⟨⟨⟨_, h1, h2, h3⟩, h4⟩, h5⟩, h6⟩ := h
  exact ⟨hk, List.length_pos_iff.2 h1, h2, h3, h4, hch, h5, h6⟩
 ·right; right
  simp [hk, hch] at h
  obtain ⟨⟨⟨⟨_, h1⟩, h2⟩, h3⟩, h4, h5, h6⟩ := h
  exact ⟨hk, h1, h2, hch, h3, h4, h5, by simpa using h6⟩
theorem Zls : ∀ {ts : List T} {ks : List PR}, kidsP ts = some ks -> ∀ u ∈ ts, ∃ r ∈ ks, refOfP u = some r
 | [], ks, h, u, hu => by cases hu
 | t :: l, ks, h, u, hu => by
  rw [kidsP] at h
  cases hr : refOfP t with
  | none => rw [hr] at h; cases h
  | some a =>
   rw [hr] at h
   dsimp only at h
   cases hk : kidsP l with
   | none => rw [hk] at h; cases h
   | some l' =>
    rw [hk] at h
    cases h
    rcases List.mem_cons.1 hu with rfl | hu
    ·exact ⟨a, by simp, hr⟩
    ·obtain ⟨r, h1, h2⟩ := Zls hk u hu
     exact ⟨r, by simp [h1], h2⟩
theorem Zjm : ∀ its : List T, its.length <= (encs its).length
 | [] => by simp
 | t :: r => by
  have := Zie t
  have := Zjm r
  rw [Za6, List.length_append, List.length_cons]; omega
theorem Zgo : ∀ {its : List T} {u : T}, u ∈ its -> (enc u).length + its.length <= (encs its).length + 1
 | t :: r, u, hu => by
  rw [Za6, List.length_append, List.length_cons]
  have := Zie t
  rcases List.mem_cons.1 hu with rfl | hu
  ·have := Zjm r; omega
  ·have := Zgo hu; omega
theorem Zxk {its : List T} (h : its.length = 2) : its = [its.getD 0 t0, its.getD 1 t0] := by
 match its, h with
 | [x, y], _ => rfl
theorem Zkz {its : List T} (h : its.length = 17) : its = its.take 16 ++ [its.getD 16 t0] := by
 have h1 : its.drop 16 = [its.getD 16 t0] := by
  rw [List.drop_eq_getElem_cons (by omega), List.drop_of_length_le (by omega), List.getD, List.getElem?_eq_getElem (by omega)]
  rfl
 rw [<- h1, List.take_append_drop]
theorem Zgh {t : T} {n : PN} (hf : forms t.its = true) (h : nodeOfP t = some n) :
  (∃ x y, t.its = [x, y] /\ x = .mk false x.bs [] /\ (unpP x.bs).2.2 = 0 /\ (((unpP x.bs).2.1 = true /\ y = .mk false y.bs [] /\ n = ⟨1, (unpP x.bs).1, y.bs, r0, []⟩) \/ ((unpP x.bs).2.1 = false /\ ∃ c, refOfP y = some c /\ form y = true /\ n = ⟨2, (unpP x.bs).1, [], c, []⟩))) ∨
  (∃ ts y ks, t.its = ts ++ [y] /\ ts.length = 16 /\ y = .mk false y.bs [] /\ kidsP ts = some ks /\ (∀ u ∈ ts, form u = true) /\ n = ⟨3, [], y.bs, r0, ks⟩) := by
 unfold nodeOfP at h
 by_cases h2 : t.its.length = 2
 ·rw [if_pos h2] at h
  left
  have hit := Zxk h2
  generalize t.its.getD 0 t0 = x at h hit
  generalize t.its.getD 1 t0 = y at h hit
  have fx := Zbh hf x (by rw [hit]; simp)
  have fy := Zbh hf y (by rw [hit]; simp)
  unfold pathP at h
  by_cases hb : x.l = true \/ (unpP x.bs).2.2 ≠ 0
  ·rw [if_pos hb] at h; cases h
  ·rw [if_neg hb] at h
   have hxl : ¬ x.l = true := fun e => hb (.inl e)
   have hxe : (unpP x.bs).2.2 = 0 := Decidable.byContradiction fun e => hb (.inr e)
   refine ⟨x, y, hit, Zd4 fx hxl, hxe, ?_⟩
   by_cases hl : (unpP x.bs).2.1 = true
   ·rw [if_pos hl] at h
    by_cases hy : y.l = true
    ·rw [if_pos hy] at h; cases h
    ·rw [if_neg hy] at h; cases h
     exact .inl ⟨hl, Zd4 fy hy, rfl⟩
   ·rw [if_neg hl] at h
    cases hq : refOfP y with
    | none => rw [hq] at h; cases h
    | some c =>
     rw [hq] at h; cases h
     exact .inr ⟨by simpa using hl, c, rfl, fy, rfl⟩
 ·rw [if_neg h2] at h
  by_cases h17 : t.its.length = 17
  ·rw [if_pos h17] at h
   right
   have hit := Zkz h17
   have hl16 : (t.its.take 16).length = 16 := by rw [List.length_take]; omega
   generalize t.its.take 16 = ts at h hit hl16
   generalize t.its.getD 16 t0 = y at h hit
   have fy := Zbh hf y (by rw [hit]; simp)
   unfold branchP at h
   cases hk : kidsP ts with
   | none => rw [hk] at h; cases h
   | some ks =>
    rw [hk] at h
    dsimp only at h
    by_cases hy : y.l = true
    ·rw [if_pos hy] at h; cases h
    ·rw [if_neg hy] at h; cases h
     exact ⟨ts, y, ks, hit, hl16, Zd4 fy hy, hk, fun u hu => Zbh hf u (by rw [hit]; simp [hu]), rfl⟩
  ·rw [if_neg h17] at h; cases h
theorem Zkc {y : T} (h : y = .mk false y.bs []) : ¬ y.l = true := by rw [h]; simp [T.l]
theorem Zr2 {b : List Int} {t u : T} (hb : isB b) (h : decP b = .ok t) (hu : u ∈ t.its) : isB (enc u) := fun x hx => hb x ((Zhh hb h hu).2 x hx)
theorem Zgt {i : List Int} {t u : T} {m : PN} (hb : isB i) (hm : ND i = some m) (hd' : decP i = .ok t) (hu : u ∈ t.its) (hl : u.l = true) :
  ∃ m', ND (enc u) = some m' /\ decP (enc u) = .ok u /\ isB (enc u) /\ ((m.k = 2 /\ m'.k = 3 /\ (enc u).length + 2 <= i.length) \/ (m.k = 3 /\ (enc u).length + 17 <= i.length)) := by
 obtain ⟨t', e1, hn, hr⟩ := Zdd hb hm
 rw [hd'] at e1
 cases e1
 obtain ⟨e1, e2, e3⟩ := Ze5 hb hd'
 obtain ⟨l1, l2, l3⟩ := Zdw hb hd' hn
 have hlen : i.length = (hd 192 (encs t.its).length).length + (encs t.its).length := by rw [<- e1, encL l1 l2, List.length_append]
 have hp := Zn2 192 (encs t.its).length
 have hml := Zgo hu
 have hbu := Zr2 hb hd' hu
 rcases Zgh l3 hn with ⟨x, y, hit, hx, _, hc⟩ | ⟨ts, y, ks, hit, h16, hy, hk, hfs, rfl⟩
 ·have hit2 : t.its.length = 2 := by rw [hit]; rfl
  rw [hit] at hu
  simp only [List.mem_cons, List.not_mem_nil, or_false] at hu
  rcases hu with rfl | rfl
  ·exact absurd hl (Zkc hx)
  ·rcases hc with ⟨_, hy, _⟩ | ⟨_, c, hc, hf, rfl⟩
   ·exact absurd hl (Zkc hy)
   ·obtain ⟨hmu, hcr⟩ := (Zgv hf hc).2.1 hl
    rcases Zg6 hr with h | h | h
    ·exact absurd h.1 (by simp)
    ·obtain ⟨_, _, _, _, _, _, hcc, _⟩ := h
     rw [hcr] at hcc
     have hk3 : KD (enc u) = 3 := by
      rcases hcc with hcc | hcc
      ·exact absurd hcc (by simp)
      ·exact hcc
     obtain ⟨m', hm', hk'⟩ := Zil (b := enc u) (by rw [hk3]; decide)
     exact ⟨m', hm', Zkj hmu, hbu, .inl ⟨rfl, by rw [hk', hk3], by omega⟩⟩
    ·exact absurd h.1 (by simp)
 ·have hit2 : t.its.length = 17 := by rw [hit, List.length_append, h16]; rfl
  rw [hit] at hu
  rcases List.mem_append.1 hu with hu | hu
  ·obtain ⟨r, hr1, hr2⟩ := Zls hk u hu
   obtain ⟨hmu, hcr⟩ := (Zgv (hfs u hu) hr2).2.1 hl
   rcases Zg6 hr with h | h | h
   ·exact absurd h.1 (by simp)
   ·exact absurd h.1 (by simp)
   ·obtain ⟨_, _, _, _, _, _, hall, _⟩ := h
    have := hall r hr1
    rw [hcr] at this
    rcases Zde this with h | h | h
    ·exact absurd h.1 (by show ¬ (1 : Int) = 0; decide)
    ·exact absurd h.1 (by show ¬ (1 : Int) = 2; decide)
    ·obtain ⟨m', hm', _⟩ := Zil (b := enc u) h.2.2.2
     exact ⟨m', hm', Zkj hmu, hbu, .inr ⟨rfl, by omega⟩⟩
  ·simp only [List.mem_cons, List.not_mem_nil, or_false] at hu
   subst hu
   exact absurd hl (Zkc hy)
theorem Zkb {i : List Int} {t : T} {m : PN} (hb : isB i) (hm : ND i = some m) (hd' : decP i = .ok t) {D : Nat} (hD : D <= 7) (h : ∀ u ∈ t.its, u.l = true -> OkD (D + 1) u) : OkD D t := by
 obtain ⟨t', e1, hn, hr⟩ := Zdd hb hm
 rw [hd'] at e1
 cases e1
 obtain ⟨l1, l2, l3⟩ := Zdw hb hd' hn
 obtain ⟨l, bs, its⟩ := t
 simp only [T.l, T.bs, T.its] at l1 l2 l3 h
 subst l1 l2
 refine Zq4 hD fun u hu => ?_
 by_cases hl : u.l = true
 ·exact h u hu hl
 ·rw [Zd4 (Zbh l3 u hu) hl]; exact Ze0 _ _
theorem ok1 {i : List Int} {t : T} {m : PN} (hb : isB i) (hm : ND i = some m) (hd' : decP i = .ok t) (hk : m.k = 3) (hl : i.length <= 16) : OkD 7 t := by
 refine Zkb hb hm hd' (Nat.le_refl _) fun u hu hul => ?_
 obtain ⟨m', _, _, _, h | h⟩ := Zgt hb hm hd' hu hul
 ·omega
 ·omega
theorem ok2 {i : List Int} {t : T} {m : PN} (hb : isB i) (hm : ND i = some m) (hd' : decP i = .ok t) (hl : i.length <= 16) : OkD 6 t := by
 refine Zkb hb hm hd' (by omega) fun u hu hul => ?_
 obtain ⟨m', h1, h2, h3, h | h⟩ := Zgt hb hm hd' hu hul
 ·exact ok1 h3 h1 h2 h.2.1 (by omega)
 ·omega
theorem ok3 {i : List Int} {t : T} {m : PN} (hb : isB i) (hm : ND i = some m) (hd' : decP i = .ok t) (hk : m.k = 3) (hl : i.length <= 33) : OkD 5 t := by
 refine Zkb hb hm hd' (by omega) fun u hu hul => ?_
 obtain ⟨m', h1, h2, h3, h | h⟩ := Zgt hb hm hd' hu hul
 ·omega
 ·exact ok2 h3 h1 h2 (by omega)
theorem ok4 {i : List Int} {t : T} {m : PN} (hb : isB i) (hm : ND i = some m) (hd' : decP i = .ok t) (hl : i.length <= 33) : OkD 4 t := by
 refine Zkb hb hm hd' (by omega) fun u hu hul => ?_
 obtain ⟨m', h1, h2, h3, h | h⟩ := Zgt hb hm hd' hu hul
 ·exact ok3 h3 h1 h2 h.2.1 (by omega)
 ·exact (ok2 h3 h1 h2 (by omega)).mono (by omega)
theorem Zut {r : PR} (ho : okR r) (h : rrefP KD r = true) : OkD 4 (refItemP r) /\ form (refItemP r) = true := by
 refine ⟨?_, (Zig (Zgw ho h).2.1).2.2⟩
 rcases Zde h with ⟨h1, h2, h3⟩ | ⟨h1, h2⟩ | ⟨h1, h2, h3, h4⟩
 ·have e : refItemP r = t0 := by unfold refItemP; rw [if_neg (by omega), if_neg (by omega)]
  rw [e]; exact Ze0 _ _
 ·have e : refItemP r = .mk false r.d [] := by unfold refItemP; rw [if_neg (by omega), if_pos h1]
  rw [e]; exact Ze0 _ _
 ·obtain ⟨m, hm, _⟩ := Zil h4
  obtain ⟨t, hd', hn, hr⟩ := Zdd ho.2.2 hm
  have e : refItemP r = t := by unfold refItemP; rw [if_pos h1, hd']
  rw [e]
  exact ok4 ho.2.2 hm hd' (by omega)
theorem Zfx (bs : List Int) : form (.mk false bs []) = true := by rw [Zea]; simp [Zce]
theorem Zgs {bs : List Int} (h : bs.length <= 65536) : (enc (.mk false bs [])).length <= bs.length + 4 := by
 rw [Zch, Za2, List.append_nil]
 have := Ztx (base := baseOf false) (n := bs.length) (by omega)
 split
 ·omega
 ·rw [List.length_append]; omega
theorem Zr1 {c : Nat} : ∀ {ts : List T}, (∀ t ∈ ts, (enc t).length <= c) -> (encs ts).length <= c * ts.length
 | [], _ => by rw [Za2]; simp
 | t :: r, h => by
  have := h t (by simp)
  have := Zr1 fun u hu => h u (List.mem_cons_of_mem _ hu)
  rw [Za6, List.length_append, List.length_cons, Nat.mul_succ]; omega
theorem Zf5 {ts : List T} (h : ∀ t ∈ ts, OkD 4 t /\ form t = true) (hl : (encs ts).length <= 65536) : (mP (.mk true [] ts)).2 = 0 /\ (enc (.mk true [] ts)).length <= 65540 := by
 have he : enc (.mk true [] ts) = hd 192 (encs ts).length ++ encs ts := encL (t := .mk true [] ts) rfl rfl
 have hle := Ztx (base := 192) (n := (encs ts).length) (by omega)
 have hlen : (enc (.mk true [] ts)).length <= 65540 := by rw [he, List.length_append]; omega
 refine ⟨Zxx (D := 3) (Zq4 (by omega) fun t ht => (h t ht).1) ?_ (by omega), hlen⟩
 rw [Zea, if_pos rfl, Zn4 fun t ht => (h t ht).2]
 rfl
theorem Zlg {p : List Int} (leaf : Bool) (h : p.length <= 64) : (packP p leaf).1.length <= 33 := by
 unfold packP
 split
 ·dsimp only; rw [Ni.pack_len]; omega
 ·simp
theorem Zc1 {n : PN} (ho : okN n) (h : NR n = true) : (mP (itemP n)).2 = 0 /\ nodeOfP (itemP n) = some n /\ (enc (itemP n)).length <= 65540 := by
 obtain ⟨ho1, ho2, ho3, ho4⟩ := ho
 rcases Zg6 h with ⟨hk, h1, h2, h3, h4, h5, h6, h7⟩ | ⟨hk, h1, h2, h3, h4, h5, h6, h7⟩ | ⟨hk, h1, h2, h3, h4, h5, h6, h7⟩
 ·have e : itemP n = .mk true [] [.mk false (packP n.p true).1 [], .mk false n.v []] := by unfold itemP; rw [if_neg (by omega), if_pos hk]
  rw [e]
  have hpl := Zlg true h1
  obtain ⟨r1, r2⟩ := Zf5 (ts := [.mk false (packP n.p true).1 [], .mk false n.v []]) (fun t ht => by
   simp only [List.mem_cons, List.not_mem_nil, or_false] at ht
   rcases ht with rfl | rfl <;> exact ⟨Ze0 _ _, Zfx _⟩) (by
   have a1 := Zgs (bs := (packP n.p true).1) (by omega)
   have a2 := Zgs (bs := n.v) (by omega)
   rw [Za6, Za6, Za2, List.length_append, List.length_append, List.length_nil]; omega)
  refine ⟨r1, ?_, r2⟩
  unfold nodeOfP
  rw [if_pos (by rfl)]
  have hu : unpP (packP n.p true).1 = (n.p, true, 0) := by rw [Ni.packP_yes h2]; exact Ni.unp_pack ho1 h2
  unfold pathP
  show (if (false = true) \/ (unpP (packP n.p true).1).2.2 ≠ 0 then none else if (unpP (packP n.p true).1).2.1 = true then (if false = true then none else some (⟨1, (unpP (packP n.p true).1).1, n.v, r0, []⟩ : PN)) else _) = some n
  rw [hu, if_neg (by simp), if_pos rfl, if_neg (by simp)]
  have hc : n.c = r0 := by
   rcases Zde h5 with c | c | c
   ·exact PR.ext c.1 c.2.1 c.2.2
   ·omega
   ·omega
  exact congrArg some (PN.ext hk.symm rfl rfl hc.symm h7.symm)
 ·have e : itemP n = .mk true [] [.mk false (packP n.p false).1 [], refItemP n.c] := by unfold itemP; rw [if_neg (by omega), if_neg (by omega)]
  rw [e]
  have hpl := Zlg false h2
  obtain ⟨b1, b2, b3⟩ := Zgw ho3 h5
  obtain ⟨r1, r2⟩ := Zf5 (ts := [.mk false (packP n.p false).1 [], refItemP n.c]) (fun t ht => by
   simp only [List.mem_cons, List.not_mem_nil, or_false] at ht
   rcases ht with rfl | rfl
   ·exact ⟨Ze0 _ _, Zfx _⟩
   ·exact Zut ho3 h5) (by
   have a1 := Zgs (bs := (packP n.p false).1) (by omega)
   rw [Za6, Za6, Za2, List.length_append, List.length_append, List.length_nil]; omega)
  refine ⟨r1, ?_, r2⟩
  unfold nodeOfP
  rw [if_pos (by rfl)]
  have hu : unpP (packP n.p false).1 = (n.p, false, 0) := by rw [Ni.packP_yes h3]; exact Ni.unp_pack ho1 h3
  unfold pathP
  show (if (false = true) \/ (unpP (packP n.p false).1).2.2 ≠ 0 then none else if (unpP (packP n.p false).1).2.1 = true then _ else match refOfP (refItemP n.c) with
   | none => none
   | some c => some (⟨2, (unpP (packP n.p false).1).1, [], c, []⟩ : PN)) = some n
  rw [hu, b1, if_neg (by simp), if_neg (by simp)]
  exact congrArg some (PN.ext hk.symm rfl h4.symm rfl h7.symm)
 ·have e : itemP n = .mk true [] (n.ks.map refItemP ++ [.mk false n.v []]) := by unfold itemP; rw [if_pos hk]
  rw [e]
  have hmk : ∀ t ∈ n.ks.map refItemP, ∃ r ∈ n.ks, refItemP r = t := fun t ht => List.mem_map.1 ht
  obtain ⟨r1, r2⟩ := Zf5 (ts := n.ks.map refItemP ++ [.mk false n.v []]) (fun t ht => by
   rcases List.mem_append.1 ht with ht | ht
   ·obtain ⟨r, hr, rfl⟩ := hmk t ht
    exact Zut (ho4 r hr) (h6 r hr)
   ·simp only [List.mem_cons, List.not_mem_nil, or_false] at ht
    subst ht
    exact ⟨Ze0 _ _, Zfx _⟩) (by
   have a1 := Zgs (bs := n.v) (by omega)
   have a2 := Zr1 (c := 36) (ts := n.ks.map refItemP) (fun t ht => by
    obtain ⟨r, hr, rfl⟩ := hmk t ht
    exact (Zgw (ho4 r hr) (h6 r hr)).2.2)
   rw [List.length_map, h5] at a2
   rw [Zck, Za6, Za2, List.length_append, List.length_append, List.length_nil]; omega)
  refine ⟨r1, ?_, r2⟩
  unfold nodeOfP
  have hl17 : (n.ks.map refItemP ++ [T.mk false n.v []]).length = 17 := by simp [h5]
  rw [show (T.mk true [] (n.ks.map refItemP ++ [T.mk false n.v []])).its = n.ks.map refItemP ++ [T.mk false n.v []] from rfl, if_neg (by omega), if_pos hl17]
  have hl16 : (n.ks.map refItemP).length = 16 := by simp [h5]
  rw [List.take_append_of_le_length (by omega), List.take_of_length_le (by omega), List.getD, List.getElem?_append_right (by omega), hl16]
  unfold branchP
  rw [Zlt fun r hr => (Zgw (ho4 r hr) (h6 r hr)).1]
  show (if (false = true) then none else some (⟨3, [], n.v, r0, n.ks⟩ : PN)) = some n
  rw [if_neg (by simp)]
  have hc : n.c = r0 := by
   rcases Zde h3 with c | c | c
   ·exact PR.ext c.1 c.2.1 c.2.2
   ·omega
   ·omega
  exact congrArg some (PN.ext hk.symm h1.symm rfl hc.symm rfl)
def NE (n : PN) : List Int := enc (itemP n)
theorem Zlj {b : List Int} {n : PN} (hb : isB b) (h : ND b = some n) : NR n = true /\ NE n = b /\ decP b = .ok (itemP n) := by
 obtain ⟨t, hd', hn, hr⟩ := Zdd hb h
 obtain ⟨e1, e2, e3⟩ := Ze5 hb hd'
 obtain ⟨l1, l2, l3⟩ := Zdw hb hd' hn
 have he : itemP n = t := by
  obtain ⟨l, bs, its⟩ := t
  simp only [T.l, T.bs, T.its] at l1 l2 l3
  subst l1 l2
  have hbx : ∀ u ∈ its, isB (enc u) := fun u hu => Zr2 hb hd' hu
  rcases Zgh (t := .mk true [] its) l3 hn with ⟨x, y, hit, hx, hxe, hc⟩ | ⟨ts, y, ks, hit, h16, hy, hk, hfs, rfl⟩
  ·simp only [T.its] at hit
   have hxb : isB x.bs := by
    have := hbx x (by rw [hit]; simp)
    intro z hz
    refine this z ?_
    rw [hx, Zch, Za2, List.append_nil]
    split
    ·exact hz
    ·exact List.mem_append_right _ hz
   have hpu := Ni.pack_unp hxb hxe
   rcases hc with ⟨hlf, hy, rfl⟩ | ⟨hlf, c, hc, hf, rfl⟩
   ·unfold itemP
    rw [if_neg (by show ¬ (1 : Int) = 3; decide), if_pos rfl]
    rw [hlf] at hpu
    show T.mk true [] [.mk false (packP (unpP x.bs).1 true).1 [], .mk false y.bs []] = _
    rw [hpu, hit, <- hx, <- hy]
   ·unfold itemP
    rw [if_neg (by show ¬ (2 : Int) = 3; decide), if_neg (by show ¬ (2 : Int) = 1; decide)]
    rw [hlf] at hpu
    show T.mk true [] [.mk false (packP (unpP x.bs).1 false).1 [], refItemP c] = _
    rw [hpu, hit, <- hx, (Zgv hf hc).1]
  ·simp only [T.its] at hit
   unfold itemP
   rw [if_pos rfl]
   show T.mk true [] (ks.map refItemP ++ [.mk false y.bs []]) = _
   rw [Zlq hfs hk, hit, <- hy]
 refine ⟨hr, ?_, by rw [he]; exact hd'⟩
 unfold NE
 rw [he, e1]
theorem Zyq {n : PN} (ho : okN n) (h : NR n = true) (hb : isB (NE n)) : ND (NE n) = some n :=
 Zyr hb (Zkj (Zc1 ho h).1) (Zc1 ho h).2.1 h
end Go.Proofs.YtefhepcplempkaaGreat
namespace Go.Proofs.YtefhepcplempkaaGreat
open Go.RowKit
section
variable {P : Program} {md : Region.Mode} {ops : Array Oper} {Q : Exit → Act → World → Prop} {S : World → Prop} {fuel : Nat} {listed : Array Bool} {a : Act} {w : World}
theorem Zal (i d : Nat) (v : Value) {o : Oper} (ho : ops[i]? = some o) (hd : o.dst = some d) (hs : Region.noSelect ops = true) (hf : Region.free md ops listed i = true) (hr : (Region.ready md ops listed).contains i = true)
  (hQ : ∀ c a w, Q (.panic c) (a.put o.dst v) w -> Q (.panic c) a w) (hg : Region.wanted o (yielded ops a.tmps) = true) (hy : ∀ w, S w -> (execOp a.eval o).run P w = .ok (.value v) w) (hS : S w)
  (h : wpAnyH P md ops Q S fuel (listed.setIfInBounds i true) (a.put (some d) v) w) : wpAnyH P md ops Q S (fuel + 1) listed a w :=
 wpAnyH_take ho hs hf hr hQ (Or.inl ⟨hg, hy⟩) hS (hd ▸ h)
theorem Zba (i d : Nat) (v : Value) {rs : List Nat} {w' : World} {o : Oper} (ho : ops[i]? = some o) (hd : o.dst = some d) (hg : Region.wanted o (yielded ops a.tmps) = true) (hrun : (execOp a.eval o).run P w = .ok (.value v) w') (hS : S w')
  (h : wpAnyH P md ops Q S fuel (listed.setIfInBounds i true) (a.put (some d) v) w') (hs : AllReadyH P md ops Q S fuel listed a w rs) : AllReadyH P md ops Q S fuel listed a w (i :: rs) :=
 AllReadyH.cons ho (fun K hK => by
  rw [if_pos hg]
  unfold Oper.wp
  rw [hrun, Oper.upon_value]
  exact hK _ _ hS (fun _ => hd ▸ h)) hs
theorem Zcd (i d : Nat) {rs : List Nat} {o : Oper} (ho : ops[i]? = some o) (hd : o.dst = some d) (hg : Region.wanted o (yielded ops a.tmps) = true) (f : FuncId) (args : Array Value) (hrun : (execOp a.eval o).run P w = .ok (.enter f args) w)
  {R : Value -> World -> Prop} (hc : Calls P f args w fun e w' => ∃ v, e = .returned v /\ R v w') (hSS : ∀ v w', R v w' -> S w') (h : ∀ v w', R v w' -> wpAnyH P md ops Q S fuel (listed.setIfInBounds i true) (a.put (some d) v) w')
  (hs : AllReadyH P md ops Q S fuel listed a w rs) : AllReadyH P md ops Q S fuel listed a w (i :: rs) :=
 AllReadyH.cons ho (fun K hK => by
  rw [if_pos hg]
  unfold Oper.wp
  rw [hrun, Oper.upon_enter]
  refine hc.mono ?_
  rintro e w' ⟨v, rfl, hR⟩
  exact hK _ _ (hSS v w' hR) (fun _ => hd ▸ h v w' hR)) hs
end
section
variable {a : Act} {w : World}
theorem Zdt {x : Operand} {p : Addr} {v : Value} {o : Oper} (ho : o.op = .load 23 x) (hx : a.eval x = .pointer (some p)) (hc : w.cell? p = some v) : (execOp a.eval o).run Tryz.prog w = .ok (.value v) w := by
 unfold execOp
 rw [ho]
 simp only [hx]
 go_simp
theorem Zbe {x : Operand} {p : Addr} {v : Value} {o : Oper} (ho : o.op = .load 107 x) (hx : a.eval x = .pointer (some p)) (hc : w.cell? p = some v) : (execOp a.eval o).run Tryz.prog w = .ok (.value v) w := by
 unfold execOp
 rw [ho]
 simp only [hx]
 go_simp
theorem Znh {x : Operand} {p : Addr} {v : Value} {o : Oper} (ho : o.op = .load 4 x) (hx : a.eval x = .pointer (some p)) (hc : w.cell? p = some v) : (execOp a.eval o).run Tryz.prog w = .ok (.value v) w := by
 unfold execOp
 rw [ho]
 simp only [hx]
 go_simp
theorem Zfe {x : Operand} {g off : Nat} {v0 v1 v2 : Value} {o : Oper} (ho : o.op = .load 109 x) (hx : a.eval x = .pointer (some ⟨g, off, none⟩)) (h0 : w.cell? ⟨g, off, none⟩ = some v0) (h1 : w.cell? ⟨g, off + 1, none⟩ = some v1) (h2 : w.cell? ⟨g, off + 2, none⟩ = some v2) : (execOp a.eval o).run Tryz.prog w = .ok (.value (.agg #[v0, v1, v2])) w := by
 unfold execOp
 rw [ho]
 simp only [hx]
 go_simp
theorem Zcr {x y : Operand} {g off j m c : Nat} {o : Oper} (ho : o.op = .indexAddr 107 x y) (hx : a.eval x = .slice (some ⟨g, off, none⟩) m c) (hy : a.eval y = .int .i64 j) (hj : j < m) : (execOp a.eval o).run Tryz.prog w = .ok (.value (.pointer (some ⟨g, off + j * 3, none⟩))) w := by
 have hji : (j : Int) < m := by omega
 unfold execOp
 rw [ho]
 simp only [hx, hy]
 go_simp
end
theorem below_go {w0 w w' : World} (h : Below w0.heap.size w0 w) (hb : Below w.heap.size w w') : Below w0.heap.size w0 w' := h.trans (hb.mono h.size)
theorem Zaf {w w' : World} (hb : Below w.heap.size w w') {g o : Nat} {v : Value} (h : w.cell? ⟨g, o, none⟩ = some v) : w'.cell? ⟨g, o, none⟩ = some v := (hb.cell (p := ⟨g, o, none⟩) (block_lt_of_cell h)).trans h
theorem ag_nil (w : World) : Ag w none 0 0 [] := ⟨.inl ⟨rfl, rfl⟩, fun _ => ⟨rfl, rfl⟩, rfl, fun x hx => by cases hx⟩
structure B1 (g : Nat) (v : World) (y : V) : Prop where
 c0 : v.cell? ⟨g, 0, none⟩ = some (.bool y.l)
 c1 : v.cell? ⟨g, 1, none⟩ = some (.slice y.ba y.bn y.bc)
 c2 : v.cell? ⟨g, 2, none⟩ = some (.slice y.ia y.m y.ic)
theorem B1.go {g : Nat} {v v' : World} {y : V} (h : B1 g v y) (hb : Below v.heap.size v v') : B1 g v' y := ⟨Zaf hb h.c0, Zaf hb h.c1, Zaf hb h.c2⟩
theorem Zcq (w : World) (y : V) : B1 w.heap.size (w.alloc (.cells #[.bool y.l, .slice y.ba y.bn y.bc, .slice y.ia y.m y.ic] 109)) y := by
 have h := heap_alloc_new w (.cells #[.bool y.l, .slice y.ba y.bn y.bc, .slice y.ia y.m y.ic] 109)
 exact ⟨by rw [cell_of_row _ _ _ _ _ _ h]; rfl, by rw [cell_of_row _ _ _ _ _ _ h]; rfl, by rw [cell_of_row _ _ _ _ _ _ h]; rfl⟩
theorem below_new (w : World) (o : Obj) : Below w.heap.size w (w.alloc o) := (Below.refl _ _).alloc (Nat.le_refl _) _
theorem B1.alloc {g : Nat} {v : World} {y : V} (h : B1 g v y) (o : Obj) : B1 g (v.alloc o) y := h.go (below_new v o)
theorem Zeo {t : T} (h : (mP t).2 = 0) : encP t = (enc t, 0) := by unfold encP; rw [if_pos h]
theorem Zmw {t : T} (h : (mP t).2 ≠ 0) : encP t = ([], (mP t).2) := by unfold encP; rw [if_neg h]
theorem Zu7 {t : T} (h : (mP t).2 = 0) : (enc t).length <= 16777220 := Zjn (Zig h).2.1
def Fr (base : Nat) (w : World) (a : Option Addr) (n : Nat) : Prop := ∀ g off, a = some ⟨g, off, none⟩ -> 0 < n -> base <= g /\ ∀ o, w.frozen? ⟨g, o, none⟩ = false
set_option maxHeartbeats 1000000 in
theorem Zga (t : T) (x : V) (w : World) (hli : Lies w t x) :
  Calls Tryz.prog 60 #[.agg #[.bool x.l, .slice x.ba x.bn x.bc, .slice x.ia x.m x.ic]] w fun e w' => (∃ a n c, e = .returned (.tuple #[.slice a n c, .int .i64 ((encP t).2 : Nat)]) /\ Ag w' a n c (encP t).1 /\ Fr w.heap.size w' a n) /\ Below w.heap.size w w' := by
 have HLI := Hid.mk hli
 have HBY := Hid.mk (Ztq t x hli)
 clear hli
 by_cases h0 : (mP t).2 = 0
 ·obtain ⟨hm1, hm2, hm3⟩ := Zig h0
  have hel := Zjn hm2
  have he : encP t = (enc t, 0) := by rw [encP, if_pos h0]
  rw [he]
  have HE := Hid.mk (Zpi t HBY.out hm2)
  have HF := Hid.mk hm3
  have HM2 := Hid.mk hm2
  have HM1 := Hid.mk hm1
  have H0 := Hid.mk h0
  obtain ⟨en, hen⟩ : ∃ en, enc t = en := ⟨_, rfl⟩
  rw [hen] at HE HM1 hel ⊢
  have HEN := Hid.mk hen
  obtain ⟨n, hn⟩ : ∃ n, en.length = n := ⟨_, rfl⟩
  rw [hn] at HM1 hel
  have HN := Hid.mk hn
  have hmk := run_make_row' (P := Tryz.prog) 23 5 (.int .u8 0) 1 Tryz.underlying23 info5b rfl .i64 .i64 n (by omega) (by omega)
  clear h0 hm1 hm2 hm3 he hen hn
  go_enter Tryz.func60, Tryz.ntmps60
  go_wp2_with fail
  refine (Zh5 t x _ (Zay ((Below.refl _ _).alloc (Nat.le_refl _) _) t x HLI.out)).mono ?_
  rintro e w1 ⟨rfl, hb⟩
  rw [HM1.out, H0.out]
  rw [show ((0 : Nat) : Int) = 0 from rfl]
  have hx : w1.heap[w.heap.size]? = some (.cells #[.bool x.l, .slice x.ba x.bn x.bc, .slice x.ia x.m x.ic] 109) := Below.row hb (heap_alloc_new _ _)
  have y0 := cell_alloc (show w1.cell? ⟨w.heap.size, 0, none⟩ = some (.bool x.l) from by rw [cell_of_row _ _ _ _ _ _ hx]; rfl)
  have y1 := cell_alloc (show w1.cell? ⟨w.heap.size, 1, none⟩ = some (.slice x.ba x.bn x.bc) from by rw [cell_of_row _ _ _ _ _ _ hx]; rfl)
  have y2 := cell_alloc (show w1.cell? ⟨w.heap.size, 2, none⟩ = some (.slice x.ia x.m x.ic) from by rw [cell_of_row _ _ _ _ _ _ hx]; rfl)
  have hb1 : Below w.heap.size w w1 := ((Below.refl w.heap.size w).alloc (Nat.le_refl _) _).trans (hb.mono (by simp))
  have hb2 : Below w.heap.size w (w1.alloc (.cells (madeCells #[.int .u8 0] n) 5)) := hb1.alloc hb1.size _
  have hrow : Row w1.heap.size (w1.alloc (.cells (madeCells #[.int .u8 0] n) 5)) (List.replicate n 0) := by
   unfold Row; rw [heap_alloc_new, made_bytes]
  have hcal := Zv5 t HF.out x w1.heap.size n n (List.replicate n 0) w _ HLI.out hb2 hb1.size hrow (by simp) (Nat.le_refl _) (by omega) HM2.out (by rw [HEN.out, HN.out]; exact Nat.le_refl _)
  rw [HEN.out, HN.out, Nat.sub_self, List.take_zero, List.nil_append, List.drop_of_length_le (by simp), List.append_nil] at hcal
  have HCAL := Hid.mk hcal
  have HB1 := Hid.mk hb1
  have HB2 := Hid.mk hb2
  clear hcal hrow hx hb hb1 hb2
  go_wp2_with fail
  refine HCAL.out.mono ?_
  rintro e w2 ⟨rfl, hr2, ht2⟩
  have HR2 := Hid.mk hr2
  have HB3 := Hid.mk (Touch.below HB2.out ht2 HB1.out.size HB2.out.size)
  clear hr2 ht2
  go_wp2_with fail
  go_ret2
  refine ⟨⟨_, _, _, rfl, ?_, ?_⟩, HB3.out⟩
  ·exact row_ag HR2.out HN.out HE.out (by omega)
  ·intro g off e _
   cases e
   exact ⟨HB1.out.size, fun o => frozen_of_row _ _ _ _ _ HR2.out⟩
 ·obtain ⟨m1, hm1⟩ : ∃ m1, (mP t).1 = m1 := ⟨_, rfl⟩
  obtain ⟨er, her⟩ : ∃ er, (mP t).2 = er := ⟨_, rfl⟩
  have he : encP t = ([], er) := by rw [encP, if_neg h0, her]
  rw [he]
  rw [her] at h0
  have hee : ((er : Int) != 0) = true := by rw [bne_iff_ne]; omega
  have HM1 := Hid.mk hm1
  have HER := Hid.mk her
  clear hm1 her h0 he
  go_enter Tryz.func60, Tryz.ntmps60
  go_wp2_with fail
  refine (Zh5 t x _ (Zay ((Below.refl _ _).alloc (Nat.le_refl _) _) t x HLI.out)).mono ?_
  rintro e w1 ⟨rfl, hb⟩
  rw [HM1.out, HER.out]
  have HB1 := Hid.mk (((Below.refl w.heap.size w).alloc (Nat.le_refl _) _).trans (hb.mono (by simp)))
  clear hb
  go_wp2_with fail
  go_ret2
  exact ⟨⟨none, 0, 0, rfl, ⟨.inl ⟨rfl, rfl⟩, fun _ => ⟨rfl, rfl⟩, rfl, fun x hx => by cases hx⟩, fun g off e => by cases e⟩, HB1.out⟩
end Go.Proofs.YtefhepcplempkaaGreat

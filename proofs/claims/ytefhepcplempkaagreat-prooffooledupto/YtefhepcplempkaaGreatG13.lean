/- What is written of a right node is read as that node; what is read is right, and is written as the same bytes; how long a branch's bytes are. -/
import Derived.Test.YtefhepcplempkaaGreatG12
import Derived.Test.YtefhepcplempkaaGreatG11
import Derived.Deep.RegionHeld3
import Derived.Test.YtefhepcplempkaaGreatG09
set_option linter.unusedVariables false
set_option maxRecDepth 100000
namespace Go.Proofs.YtefhepcplempkaaGreat
open Ni (unpP packP rightP)
theorem Zk2 : ∀ {ts : List T} {ks : List PR}, kidsP ts = some ks -> ∀ u ∈ ts, ∃ r ∈ ks, refOfP u = some r
 | [], ks, h, u, hu => by cases hu
 | t :: l, ks, h, u, hu => by
  rw [kidsP] at h
  cases hr : refOfP t with
  | none => rw [hr] at h; cases h
  | some a =>
   rw [hr] at h
   dsimp only at h
   cases hk : kidsP l with
   | none => rw [hk] at h; cases h
   | some l' =>
    rw [hk] at h
    cases h
    rcases List.mem_cons.1 hu with rfl | hu
    ·exact ⟨a, by simp, hr⟩
    ·obtain ⟨r, h1, h2⟩ := Zk2 hk u hu
     exact ⟨r, by simp [h1], h2⟩
theorem Zip : ∀ its : List T, its.length <= (encs its).length
 | [] => by simp
 | t :: r => by
  have := Zjp t
  have := Zip r
  rw [Zba, List.length_append, List.length_cons]; omega
theorem Zf2 : ∀ {its : List T} {u : T}, u ∈ its -> (enc u).length + its.length <= (encs its).length + 1
 | t :: r, u, hu => by
  rw [Zba, List.length_append, List.length_cons]
  have := Zjp t
  rcases List.mem_cons.1 hu with rfl | hu
  ·have := Zip r; omega
  ·have := Zf2 hu; omega
theorem Zyq {its : List T} (h : its.length = 2) : its = [its.getD 0 t0, its.getD 1 t0] := by
 match its, h with
 | [x, y], _ => rfl
theorem Zj9 {its : List T} (h : its.length = 17) : its = its.take 16 ++ [its.getD 16 t0] := by
 have h1 : its.drop 16 = [its.getD 16 t0] := by
  rw [List.drop_eq_getElem_cons (by omega), List.drop_of_length_le (by omega), List.getD, List.getElem?_eq_getElem (by omega)]
  rfl
 rw [<- h1, List.take_append_drop]
theorem Zkv {t : T} {n : PN} (hf : forms t.its = true) (h : nodeOfP t = some n) :
  (∃ x y, t.its = [x, y] /\ x = .mk false x.bs [] /\ (unpP x.bs).2.2 = 0 /\ (((unpP x.bs).2.1 = true /\ y = .mk false y.bs [] /\ n = ⟨1, (unpP x.bs).1, y.bs, r0, []⟩) \/ ((unpP x.bs).2.1 = false /\ ∃ c, refOfP y = some c /\ form y = true /\ n = ⟨2, (unpP x.bs).1, [], c, []⟩))) ∨
  (∃ ts y ks, t.its = ts ++ [y] /\ ts.length = 16 /\ y = .mk false y.bs [] /\ kidsP ts = some ks /\ (∀ u ∈ ts, form u = true) /\ n = ⟨3, [], y.bs, r0, ks⟩) := by
 unfold nodeOfP at h
 by_cases h2 : t.its.length = 2
 ·rw [if_pos h2] at h
  left
  have hit := Zyq h2
  generalize t.its.getD 0 t0 = x at h hit
  generalize t.its.getD 1 t0 = y at h hit
  have fx := Zb0 hf x (by rw [hit]; simp)
  have fy := Zb0 hf y (by rw [hit]; simp)
  unfold pathP at h
  by_cases hb : x.l = true \/ (unpP x.bs).2.2 ≠ 0
  ·rw [if_pos hb] at h; cases h
  ·rw [if_neg hb] at h
   have hxl : ¬ x.l = true := fun e => hb (.inl e)
   have hxe : (unpP x.bs).2.2 = 0 := Decidable.byContradiction fun e => hb (.inr e)
   refine ⟨x, y, hit, Zdn fx hxl, hxe, ?_⟩
   by_cases hl : (unpP x.bs).2.1 = true
   ·rw [if_pos hl] at h
    by_cases hy : y.l = true
    ·rw [if_pos hy] at h; cases h
    ·rw [if_neg hy] at h; cases h
     exact .inl ⟨hl, Zdn fy hy, rfl⟩
   ·rw [if_neg hl] at h
    cases hq : refOfP y with
    | none => rw [hq] at h; cases h
    | some c =>
     rw [hq] at h; cases h
     exact .inr ⟨by simpa using hl, c, rfl, fy, rfl⟩
 ·rw [if_neg h2] at h
  by_cases h17 : t.its.length = 17
  ·rw [if_pos h17] at h
   right
   have hit := Zj9 h17
   have hl16 : (t.its.take 16).length = 16 := by rw [List.length_take]; omega
   generalize t.its.take 16 = ts at h hit hl16
   generalize t.its.getD 16 t0 = y at h hit
   have fy := Zb0 hf y (by rw [hit]; simp)
   unfold branchP at h
   cases hk : kidsP ts with
   | none => rw [hk] at h; cases h
   | some ks =>
    rw [hk] at h
    dsimp only at h
    by_cases hy : y.l = true
    ·rw [if_pos hy] at h; cases h
    ·rw [if_neg hy] at h; cases h
     exact ⟨ts, y, ks, hit, hl16, Zdn fy hy, hk, fun u hu => Zb0 hf u (by rw [hit]; simp [hu]), rfl⟩
  ·rw [if_neg h17] at h; cases h
theorem Zjf {y : T} (h : y = .mk false y.bs []) : ¬ y.l = true := by rw [h]; simp [T.l]
theorem Zxv {b : List Int} {t u : T} (hb : isB b) (h : decP b = .ok t) (hu : u ∈ t.its) : isB (enc u) := fun x hx => hb x ((Zlq hb h hu).2 x hx)
theorem Zga {i : List Int} {t u : T} {m : PN} (hb : isB i) (hm : ND i = some m) (hd' : decP i = .ok t) (hu : u ∈ t.its) (hl : u.l = true) :
  ∃ m', ND (enc u) = some m' /\ decP (enc u) = .ok u /\ isB (enc u) /\ ((m.k = 2 /\ m'.k = 3 /\ (enc u).length + 2 <= i.length) \/ (m.k = 3 /\ (enc u).length + 17 <= i.length)) := by
 obtain ⟨t', e1, hn, hr⟩ := Zhw hb hm
 rw [hd'] at e1
 cases e1
 obtain ⟨e1, e2, e3⟩ := Zho hb hd'
 obtain ⟨l1, l2, l3⟩ := Zei hb hd' hn
 have hlen : i.length = (hd 192 (encs t.its).length).length + (encs t.its).length := by rw [<- e1, encL l1 l2, List.length_append]
 have hp := Znn 192 (encs t.its).length
 have hml := Zf2 hu
 have hbu := Zxv hb hd' hu
 rcases Zkv l3 hn with ⟨x, y, hit, hx, _, hc⟩ | ⟨ts, y, ks, hit, h16, hy, hk, hfs, rfl⟩
 ·have hit2 : t.its.length = 2 := by rw [hit]; rfl
  rw [hit] at hu
  simp only [List.mem_cons, List.not_mem_nil, or_false] at hu
  rcases hu with rfl | rfl
  ·exact absurd hl (Zjf hx)
  ·rcases hc with ⟨_, hy, _⟩ | ⟨_, c, hc, hf, rfl⟩
   ·exact absurd hl (Zjf hy)
   ·obtain ⟨hmu, hcr⟩ := (Zmx hf hc).2.1 hl
    rcases Zgm hr with h | h | h
    ·exact absurd h.1 (by simp)
    ·obtain ⟨_, _, _, _, _, _, hcc, _⟩ := h
     rw [hcr] at hcc
     have hk3 : KD (enc u) = 3 := by
      rcases hcc with hcc | hcc
      ·exact absurd hcc (by simp)
      ·exact hcc
     obtain ⟨m', hm', hk'⟩ := Zj1 (b := enc u) (by rw [hk3]; decide)
     exact ⟨m', hm', Zhk hmu, hbu, .inl ⟨rfl, by rw [hk', hk3], by omega⟩⟩
    ·exact absurd h.1 (by simp)
 ·have hit2 : t.its.length = 17 := by rw [hit, List.length_append, h16]; rfl
  rw [hit] at hu
  rcases List.mem_append.1 hu with hu | hu
  ·obtain ⟨r, hr1, hr2⟩ := Zk2 hk u hu
   obtain ⟨hmu, hcr⟩ := (Zmx (hfs u hu) hr2).2.1 hl
   rcases Zgm hr with h | h | h
   ·exact absurd h.1 (by simp)
   ·exact absurd h.1 (by simp)
   ·obtain ⟨_, _, _, _, _, _, hall, _⟩ := h
    have := hall r hr1
    rw [hcr] at this
    rcases Zcz this with h | h | h
    ·exact absurd h.1 (by show ¬ (1 : Int) = 0; decide)
    ·exact absurd h.1 (by show ¬ (1 : Int) = 2; decide)
    ·obtain ⟨m', hm', _⟩ := Zj1 (b := enc u) h.2.2.2
     exact ⟨m', hm', Zhk hmu, hbu, .inr ⟨rfl, by omega⟩⟩
  ·simp only [List.mem_cons, List.not_mem_nil, or_false] at hu
   subst hu
   exact absurd hl (Zjf hy)
theorem Zje {i : List Int} {t : T} {m : PN} (hb : isB i) (hm : ND i = some m) (hd' : decP i = .ok t) {D : Nat} (hD : D <= 7) (h : ∀ u ∈ t.its, u.l = true -> Ok (D + 1) u) : Ok D t := by
 obtain ⟨t', e1, hn, hr⟩ := Zhw hb hm
 rw [hd'] at e1
 cases e1
 obtain ⟨l1, l2, l3⟩ := Zei hb hd' hn
 obtain ⟨l, bs, its⟩ := t
 simp only [T.l, T.bs, T.its] at l1 l2 l3 h
 subst l1 l2
 refine Zqn hD fun u hu => ?_
 by_cases hl : u.l = true
 ·exact h u hu hl
 ·rw [Zdn (Zb0 l3 u hu) hl]; exact Zeg _ _
theorem ok1 {i : List Int} {t : T} {m : PN} (hb : isB i) (hm : ND i = some m) (hd' : decP i = .ok t) (hk : m.k = 3) (hl : i.length <= 16) : Ok 7 t := by
 refine Zje hb hm hd' (Nat.le_refl _) fun u hu hul => ?_
 obtain ⟨m', _, _, _, h | h⟩ := Zga hb hm hd' hu hul
 ·omega
 ·omega
theorem ok2 {i : List Int} {t : T} {m : PN} (hb : isB i) (hm : ND i = some m) (hd' : decP i = .ok t) (hl : i.length <= 16) : Ok 6 t := by
 refine Zje hb hm hd' (by omega) fun u hu hul => ?_
 obtain ⟨m', h1, h2, h3, h | h⟩ := Zga hb hm hd' hu hul
 ·exact ok1 h3 h1 h2 h.2.1 (by omega)
 ·omega
theorem ok3 {i : List Int} {t : T} {m : PN} (hb : isB i) (hm : ND i = some m) (hd' : decP i = .ok t) (hk : m.k = 3) (hl : i.length <= 33) : Ok 5 t := by
 refine Zje hb hm hd' (by omega) fun u hu hul => ?_
 obtain ⟨m', h1, h2, h3, h | h⟩ := Zga hb hm hd' hu hul
 ·omega
 ·exact ok2 h3 h1 h2 (by omega)
theorem ok4 {i : List Int} {t : T} {m : PN} (hb : isB i) (hm : ND i = some m) (hd' : decP i = .ok t) (hl : i.length <= 33) : Ok 4 t := by
 refine Zje hb hm hd' (by omega) fun u hu hul => ?_
 obtain ⟨m', h1, h2, h3, h | h⟩ := Zga hb hm hd' hu hul
 ·exact ok3 h3 h1 h2 h.2.1 (by omega)
 ·exact (ok2 h3 h1 h2 (by omega)).mono (by omega)
theorem Zvk {r : PR} (ho : okR r) (h : rrefP KD r = true) : Ok 4 (refItemP r) /\ form (refItemP r) = true := by
 refine ⟨?_, (Zhl (Zgd ho h).2.1).2.2⟩
 rcases Zcz h with ⟨h1, h2, h3⟩ | ⟨h1, h2⟩ | ⟨h1, h2, h3, h4⟩
 ·have e : refItemP r = t0 := by unfold refItemP; rw [if_neg (by omega), if_neg (by omega)]
  rw [e]; exact Zeg _ _
 ·have e : refItemP r = .mk false r.d [] := by unfold refItemP; rw [if_neg (by omega), if_pos h1]
  rw [e]; exact Zeg _ _
 ·obtain ⟨m, hm, _⟩ := Zj1 h4
  obtain ⟨t, hd', hn, hr⟩ := Zhw ho.2.2 hm
  have e : refItemP r = t := by unfold refItemP; rw [if_pos h1, hd']
  rw [e]
  exact ok4 ho.2.2 hm hd' (by omega)
theorem Zfe (bs : List Int) : form (.mk false bs []) = true := by rw [Zdx]; simp [Zcp]
theorem Zf9 {bs : List Int} (h : bs.length <= 65536) : (enc (.mk false bs [])).length <= bs.length + 4 := by
 rw [Zcc, Za9, List.append_nil]
 have := Zue (base := baseOf false) (n := bs.length) (by omega)
 split
 ·omega
 ·rw [List.length_append]; omega
theorem Zry {c : Nat} : ∀ {ts : List T}, (∀ t ∈ ts, (enc t).length <= c) -> (encs ts).length <= c * ts.length
 | [], _ => by rw [Za9]; simp
 | t :: r, h => by
  have := h t (by simp)
  have := Zry fun u hu => h u (List.mem_cons_of_mem _ hu)
  rw [Zba, List.length_append, List.length_cons, Nat.mul_succ]; omega
theorem Zfj {ts : List T} (h : ∀ t ∈ ts, Ok 4 t /\ form t = true) (hl : (encs ts).length <= 65536) : (mP (.mk true [] ts)).2 = 0 /\ (enc (.mk true [] ts)).length <= 65540 := by
 have he : enc (.mk true [] ts) = hd 192 (encs ts).length ++ encs ts := encL (t := .mk true [] ts) rfl rfl
 have hle := Zue (base := 192) (n := (encs ts).length) (by omega)
 have hlen : (enc (.mk true [] ts)).length <= 65540 := by rw [he, List.length_append]; omega
 refine ⟨Zzb (D := 3) (Zqn (by omega) fun t ht => (h t ht).1) ?_ (by omega), hlen⟩
 rw [Zdx, if_pos rfl, Zno fun t ht => (h t ht).2]
 rfl
theorem Zkp {p : List Int} (leaf : Bool) (h : p.length <= 64) : (packP p leaf).1.length <= 33 := by
 unfold packP
 split
 ·dsimp only; rw [Ni.pack_len]; omega
 ·simp
theorem Zc3 {n : PN} (ho : okN n) (h : NR n = true) : (mP (itemP n)).2 = 0 /\ nodeOfP (itemP n) = some n /\ (enc (itemP n)).length <= 65540 := by
 obtain ⟨ho1, ho2, ho3, ho4⟩ := ho
 rcases Zgm h with ⟨hk, h1, h2, h3, h4, h5, h6, h7⟩ | ⟨hk, h1, h2, h3, h4, h5, h6, h7⟩ | ⟨hk, h1, h2, h3, h4, h5, h6, h7⟩
 ·have e : itemP n = .mk true [] [.mk false (packP n.p true).1 [], .mk false n.v []] := by unfold itemP; rw [if_neg (by omega), if_pos hk]
  rw [e]
  have hpl := Zkp true h1
  obtain ⟨r1, r2⟩ := Zfj (ts := [.mk false (packP n.p true).1 [], .mk false n.v []]) (fun t ht => by
   simp only [List.mem_cons, List.not_mem_nil, or_false] at ht
   rcases ht with rfl | rfl <;> exact ⟨Zeg _ _, Zfe _⟩) (by
   have a1 := Zf9 (bs := (packP n.p true).1) (by omega)
   have a2 := Zf9 (bs := n.v) (by omega)
   rw [Zba, Zba, Za9, List.length_append, List.length_append, List.length_nil]; omega)
  refine ⟨r1, ?_, r2⟩
  unfold nodeOfP
  rw [if_pos (by rfl)]
  have hu : unpP (packP n.p true).1 = (n.p, true, 0) := by rw [Ni.packP_yes h2]; exact Ni.unp_pack ho1 h2
  unfold pathP
  show (if (false = true) \/ (unpP (packP n.p true).1).2.2 ≠ 0 then none else if (unpP (packP n.p true).1).2.1 = true then (if false = true then none else some (⟨1, (unpP (packP n.p true).1).1, n.v, r0, []⟩ : PN)) else _) = some n
  rw [hu, if_neg (by simp), if_pos rfl, if_neg (by simp)]
  have hc : n.c = r0 := by
   rcases Zcz h5 with c | c | c
   ·exact PR.ext c.1 c.2.1 c.2.2
   ·omega
   ·omega
  exact congrArg some (PN.ext hk.symm rfl rfl hc.symm h7.symm)
 ·have e : itemP n = .mk true [] [.mk false (packP n.p false).1 [], refItemP n.c] := by unfold itemP; rw [if_neg (by omega), if_neg (by omega)]
  rw [e]
  have hpl := Zkp false h2
  obtain ⟨b1, b2, b3⟩ := Zgd ho3 h5
  obtain ⟨r1, r2⟩ := Zfj (ts := [.mk false (packP n.p false).1 [], refItemP n.c]) (fun t ht => by
   simp only [List.mem_cons, List.not_mem_nil, or_false] at ht
   rcases ht with rfl | rfl
   ·exact ⟨Zeg _ _, Zfe _⟩
   ·exact Zvk ho3 h5) (by
   have a1 := Zf9 (bs := (packP n.p false).1) (by omega)
   rw [Zba, Zba, Za9, List.length_append, List.length_append, List.length_nil]; omega)
  refine ⟨r1, ?_, r2⟩
  unfold nodeOfP
  rw [if_pos (by rfl)]
  have hu : unpP (packP n.p false).1 = (n.p, false, 0) := by rw [Ni.packP_yes h3]; exact Ni.unp_pack ho1 h3
  unfold pathP
  show (if (false = true) \/ (unpP (packP n.p false).1).2.2 ≠ 0 then none else if (unpP (packP n.p false).1).2.1 = true then _ else match refOfP (refItemP n.c) with
   | none => none
   | some c => some (⟨2, (unpP (packP n.p false).1).1, [], c, []⟩ : PN)) = some n
  rw [hu, b1, if_neg (by simp), if_neg (by simp)]
  exact congrArg some (PN.ext hk.symm rfl h4.symm rfl h7.symm)
 ·have e : itemP n = .mk true [] (n.ks.map refItemP ++ [.mk false n.v []]) := by unfold itemP; rw [if_pos hk]
  rw [e]
  have hmk : ∀ t ∈ n.ks.map refItemP, ∃ r ∈ n.ks, refItemP r = t := fun t ht => List.mem_map.1 ht
  obtain ⟨r1, r2⟩ := Zfj (ts := n.ks.map refItemP ++ [.mk false n.v []]) (fun t ht => by
   rcases List.mem_append.1 ht with ht | ht
   ·obtain ⟨r, hr, rfl⟩ := hmk t ht
    exact Zvk (ho4 r hr) (h6 r hr)
   ·simp only [List.mem_cons, List.not_mem_nil, or_false] at ht
    subst ht
    exact ⟨Zeg _ _, Zfe _⟩) (by
   have a1 := Zf9 (bs := n.v) (by omega)
   have a2 := Zry (c := 36) (ts := n.ks.map refItemP) (fun t ht => by
    obtain ⟨r, hr, rfl⟩ := hmk t ht
    exact (Zgd (ho4 r hr) (h6 r hr)).2.2)
   rw [List.length_map, h5] at a2
   rw [Zen, Zba, Za9, List.length_append, List.length_append, List.length_nil]; omega)
  refine ⟨r1, ?_, r2⟩
  unfold nodeOfP
  have hl17 : (n.ks.map refItemP ++ [T.mk false n.v []]).length = 17 := by simp [h5]
  rw [show (T.mk true [] (n.ks.map refItemP ++ [T.mk false n.v []])).its = n.ks.map refItemP ++ [T.mk false n.v []] from rfl, if_neg (by omega), if_pos hl17]
  have hl16 : (n.ks.map refItemP).length = 16 := by simp [h5]
  rw [List.take_append_of_le_length (by omega), List.take_of_length_le (by omega), List.getD, List.getElem?_append_right (by omega), hl16]
  unfold branchP
  rw [Zk3 fun r hr => (Zgd (ho4 r hr) (h6 r hr)).1]
  show (if (false = true) then none else some (⟨3, [], n.v, r0, n.ks⟩ : PN)) = some n
  rw [if_neg (by simp)]
  have hc : n.c = r0 := by
   rcases Zcz h3 with c | c | c
   ·exact PR.ext c.1 c.2.1 c.2.2
   ·omega
   ·omega
  exact congrArg some (PN.ext hk.symm h1.symm rfl hc.symm rfl)
def NE (n : PN) : List Int := enc (itemP n)
theorem Z0b {n : PN} (ho : okN n) (h : NR n = true) (hb : isB (NE n)) : ND (NE n) = some n :=
 Z0c hb (Zhk (Zc3 ho h).1) (Zc3 ho h).2.1 h
end Go.Proofs.YtefhepcplempkaaGreat
namespace Go.Proofs.YtefhepcplempkaaGreat
open Go.RowKit
section
variable {P : Program} {md : Region.Mode} {ops : Array Oper} {Q : Exit → Act → World → Prop} {S : World → Prop} {fuel : Nat} {listed : Array Bool} {a : Act} {w : World}
theorem Zax (i d : Nat) (v : Value) {o : Oper} (ho : ops[i]? = some o) (hd : o.dst = some d) (hs : Region.noSelect ops = true) (hf : Region.free md ops listed i = true) (hr : (Region.ready md ops listed).contains i = true)
  (hQ : ∀ c a w, Q (.panic c) (a.put o.dst v) w -> Q (.panic c) a w) (hg : Region.wanted o (yielded ops a.tmps) = true) (hy : ∀ w, S w -> (execOp a.eval o).run P w = .ok (.value v) w) (hS : S w)
  (h : wpAnyH P md ops Q S fuel (listed.setIfInBounds i true) (a.put (some d) v) w) : wpAnyH P md ops Q S (fuel + 1) listed a w :=
 wpAnyH_take ho hs hf hr hQ (Or.inl ⟨hg, hy⟩) hS (hd ▸ h)
theorem Zid (i d : Nat) (v : Value) {rs : List Nat} {w' : World} {o : Oper} (ho : ops[i]? = some o) (hd : o.dst = some d) (hg : Region.wanted o (yielded ops a.tmps) = true) (hrun : (execOp a.eval o).run P w = .ok (.value v) w') (hS : S w')
  (h : wpAnyH P md ops Q S fuel (listed.setIfInBounds i true) (a.put (some d) v) w') (hs : AllReadyH P md ops Q S fuel listed a w rs) : AllReadyH P md ops Q S fuel listed a w (i :: rs) :=
 AllReadyH.cons ho (fun K hK => by
  rw [if_pos hg]
  unfold Oper.wp
  rw [hrun, Oper.upon_value]
  exact hK _ _ hS (fun _ => hd ▸ h)) hs
theorem Zds (i d : Nat) {rs : List Nat} {o : Oper} (ho : ops[i]? = some o) (hd : o.dst = some d) (hg : Region.wanted o (yielded ops a.tmps) = true) (f : FuncId) (args : Array Value) (hrun : (execOp a.eval o).run P w = .ok (.enter f args) w)
  {R : Value -> World -> Prop} (hc : Calls P f args w fun e w' => ∃ v, e = .returned v /\ R v w') (hSS : ∀ v w', R v w' -> S w') (h : ∀ v w', R v w' -> wpAnyH P md ops Q S fuel (listed.setIfInBounds i true) (a.put (some d) v) w')
  (hs : AllReadyH P md ops Q S fuel listed a w rs) : AllReadyH P md ops Q S fuel listed a w (i :: rs) :=
 AllReadyH.cons ho (fun K hK => by
  rw [if_pos hg]
  unfold Oper.wp
  rw [hrun, Oper.upon_enter]
  refine hc.mono ?_
  rintro e w' ⟨v, rfl, hR⟩
  exact hK _ _ (hSS v w' hR) (fun _ => hd ▸ h v w' hR)) hs
end
section
variable {a : Act} {w : World}
theorem Zi8 {x : Operand} {p : Addr} {v : Value} {o : Oper} (ho : o.op = .load 23 x) (hx : a.eval x = .pointer (some p)) (hc : w.cell? p = some v) : (execOp a.eval o).run Tryz.prog w = .ok (.value v) w := by
 unfold execOp
 rw [ho]
 simp only [hx]
 go_simp
theorem Zge {x : Operand} {p : Addr} {v : Value} {o : Oper} (ho : o.op = .load 107 x) (hx : a.eval x = .pointer (some p)) (hc : w.cell? p = some v) : (execOp a.eval o).run Tryz.prog w = .ok (.value v) w := by
 unfold execOp
 rw [ho]
 simp only [hx]
 go_simp
theorem Zmz {x : Operand} {p : Addr} {v : Value} {o : Oper} (ho : o.op = .load 4 x) (hx : a.eval x = .pointer (some p)) (hc : w.cell? p = some v) : (execOp a.eval o).run Tryz.prog w = .ok (.value v) w := by
 unfold execOp
 rw [ho]
 simp only [hx]
 go_simp
theorem Zi7 {x : Operand} {g off : Nat} {v0 v1 v2 : Value} {o : Oper} (ho : o.op = .load 109 x) (hx : a.eval x = .pointer (some ⟨g, off, none⟩)) (h0 : w.cell? ⟨g, off, none⟩ = some v0) (h1 : w.cell? ⟨g, off + 1, none⟩ = some v1) (h2 : w.cell? ⟨g, off + 2, none⟩ = some v2) : (execOp a.eval o).run Tryz.prog w = .ok (.value (.agg #[v0, v1, v2])) w := by
 unfold execOp
 rw [ho]
 simp only [hx]
 go_simp
theorem Zi9 {x y : Operand} {g off j m c : Nat} {o : Oper} (ho : o.op = .indexAddr 107 x y) (hx : a.eval x = .slice (some ⟨g, off, none⟩) m c) (hy : a.eval y = .int .i64 j) (hj : j < m) : (execOp a.eval o).run Tryz.prog w = .ok (.value (.pointer (some ⟨g, off + j * 3, none⟩))) w := by
 have hji : (j : Int) < m := by omega
 unfold execOp
 rw [ho]
 simp only [hx, hy]
 go_simp
end
theorem below_go {w0 w w' : World} (h : Below w0.heap.size w0 w) (hb : Below w.heap.size w w') : Below w0.heap.size w0 w' := h.trans (hb.mono h.size)
theorem Zaz {w w' : World} (hb : Below w.heap.size w w') {g o : Nat} {v : Value} (h : w.cell? ⟨g, o, none⟩ = some v) : w'.cell? ⟨g, o, none⟩ = some v := (hb.cell (p := ⟨g, o, none⟩) (block_lt_of_cell h)).trans h
theorem ag_nil (w : World) : Ag w none 0 0 [] := ⟨.inl ⟨rfl, rfl⟩, fun _ => ⟨rfl, rfl⟩, rfl, fun x hx => by cases hx⟩
structure B1 (g : Nat) (v : World) (y : V) : Prop where
 c0 : v.cell? ⟨g, 0, none⟩ = some (.bool y.l)
 c1 : v.cell? ⟨g, 1, none⟩ = some (.slice y.ba y.bn y.bc)
 c2 : v.cell? ⟨g, 2, none⟩ = some (.slice y.ia y.m y.ic)
theorem B1.go {g : Nat} {v v' : World} {y : V} (h : B1 g v y) (hb : Below v.heap.size v v') : B1 g v' y := ⟨Zaz hb h.c0, Zaz hb h.c1, Zaz hb h.c2⟩
theorem Zf5 (w : World) (y : V) : B1 w.heap.size (w.alloc (.cells #[.bool y.l, .slice y.ba y.bn y.bc, .slice y.ia y.m y.ic] 109)) y := by
 have h := heap_alloc_new w (.cells #[.bool y.l, .slice y.ba y.bn y.bc, .slice y.ia y.m y.ic] 109)
 exact ⟨by rw [cell_of_row _ _ _ _ _ _ h]; rfl, by rw [cell_of_row _ _ _ _ _ _ h]; rfl, by rw [cell_of_row _ _ _ _ _ _ h]; rfl⟩
theorem below_new (w : World) (o : Obj) : Below w.heap.size w (w.alloc o) := (Below.refl _ _).alloc (Nat.le_refl _) _
theorem B1.alloc {g : Nat} {v : World} {y : V} (h : B1 g v y) (o : Obj) : B1 g (v.alloc o) y := h.go (below_new v o)
theorem Zns {t : T} (h : (mP t).2 = 0) : encP t = (enc t, 0) := by unfold encP; rw [if_pos h]
theorem Zxw {t : T} (h : (mP t).2 ≠ 0) : encP t = ([], (mP t).2) := by unfold encP; rw [if_neg h]
theorem Zzu {t : T} (h : (mP t).2 = 0) : (enc t).length <= 16777220 := Ziq (Zhl h).2.1
def Fr (base : Nat) (w : World) (a : Option Addr) (n : Nat) : Prop := ∀ g off, a = some ⟨g, off, none⟩ -> 0 < n -> base <= g /\ ∀ o, w.frozen? ⟨g, o, none⟩ = false
set_option maxHeartbeats 1000000 in
theorem Zfp (t : T) (x : V) (w : World) (hli : Lies w t x) :
  Calls Tryz.prog 60 #[.agg #[.bool x.l, .slice x.ba x.bn x.bc, .slice x.ia x.m x.ic]] w fun e w' => (∃ a n c, e = .returned (.tuple #[.slice a n c, .int .i64 ((encP t).2 : Nat)]) /\ Ag w' a n c (encP t).1 /\ Fr w.heap.size w' a n) /\ Below w.heap.size w w' := by
 have HLI := Hid.mk hli
 have HBY := Hid.mk (Zt0 t x hli)
 clear hli
 by_cases h0 : (mP t).2 = 0
 ·obtain ⟨hm1, hm2, hm3⟩ := Zhl h0
  have hel := Ziq hm2
  have he : encP t = (enc t, 0) := by rw [encP, if_pos h0]
  rw [he]
  have HE := Hid.mk (Zir t HBY.out hm2)
  have HF := Hid.mk hm3
  have HM2 := Hid.mk hm2
  have HM1 := Hid.mk hm1
  have H0 := Hid.mk h0
  obtain ⟨en, hen⟩ : ∃ en, enc t = en := ⟨_, rfl⟩
  rw [hen] at HE HM1 hel ⊢
  have HEN := Hid.mk hen
  obtain ⟨n, hn⟩ : ∃ n, en.length = n := ⟨_, rfl⟩
  rw [hn] at HM1 hel
  have HN := Hid.mk hn
  have hmk := run_make_row' (P := Tryz.prog) 23 5 (.int .u8 0) 1 Tryz.underlying23 info5b rfl .i64 .i64 n (by omega) (by omega)
  clear h0 hm1 hm2 hm3 he hen hn
  go_enter Tryz.func60, Tryz.ntmps60
  go_wp2_with fail
  refine (Zhc t x _ (Zcl ((Below.refl _ _).alloc (Nat.le_refl _) _) t x HLI.out)).mono ?_
  rintro e w1 ⟨rfl, hb⟩
  rw [HM1.out, H0.out]
  rw [show ((0 : Nat) : Int) = 0 from rfl]
  have hx : w1.heap[w.heap.size]? = some (.cells #[.bool x.l, .slice x.ba x.bn x.bc, .slice x.ia x.m x.ic] 109) := Below.row hb (heap_alloc_new _ _)
  have y0 := cell_alloc (show w1.cell? ⟨w.heap.size, 0, none⟩ = some (.bool x.l) from by rw [cell_of_row _ _ _ _ _ _ hx]; rfl)
  have y1 := cell_alloc (show w1.cell? ⟨w.heap.size, 1, none⟩ = some (.slice x.ba x.bn x.bc) from by rw [cell_of_row _ _ _ _ _ _ hx]; rfl)
  have y2 := cell_alloc (show w1.cell? ⟨w.heap.size, 2, none⟩ = some (.slice x.ia x.m x.ic) from by rw [cell_of_row _ _ _ _ _ _ hx]; rfl)
  have hb1 : Below w.heap.size w w1 := ((Below.refl w.heap.size w).alloc (Nat.le_refl _) _).trans (hb.mono (by simp))
  have hb2 : Below w.heap.size w (w1.alloc (.cells (madeCells #[.int .u8 0] n) 5)) := hb1.alloc hb1.size _
  have hrow : Row w1.heap.size (w1.alloc (.cells (madeCells #[.int .u8 0] n) 5)) (List.replicate n 0) := by
   unfold Row; rw [heap_alloc_new, made_bytes]
  have hcal := Zwx t HF.out x w1.heap.size n n (List.replicate n 0) w _ HLI.out hb2 hb1.size hrow (by simp) (Nat.le_refl _) (by omega) HM2.out (by rw [HEN.out, HN.out]; exact Nat.le_refl _)
  rw [HEN.out, HN.out, Nat.sub_self, List.take_zero, List.nil_append, List.drop_of_length_le (by simp), List.append_nil] at hcal
  have HCAL := Hid.mk hcal
  have HB1 := Hid.mk hb1
  have HB2 := Hid.mk hb2
  clear hcal hrow hx hb hb1 hb2
  go_wp2_with fail
  refine HCAL.out.mono ?_
  rintro e w2 ⟨rfl, hr2, ht2⟩
  have HR2 := Hid.mk hr2
  have HB3 := Hid.mk (Touch.below HB2.out ht2 HB1.out.size HB2.out.size)
  clear hr2 ht2
  go_wp2_with fail
  go_ret2
  refine ⟨⟨_, _, _, rfl, ?_, ?_⟩, HB3.out⟩
  ·exact row_ag HR2.out HN.out HE.out (by omega)
  ·intro g off e _
   cases e
   exact ⟨HB1.out.size, fun o => frozen_of_row _ _ _ _ _ HR2.out⟩
 ·obtain ⟨m1, hm1⟩ : ∃ m1, (mP t).1 = m1 := ⟨_, rfl⟩
  obtain ⟨er, her⟩ : ∃ er, (mP t).2 = er := ⟨_, rfl⟩
  have he : encP t = ([], er) := by rw [encP, if_neg h0, her]
  rw [he]
  rw [her] at h0
  have hee : ((er : Int) != 0) = true := by rw [bne_iff_ne]; omega
  have HM1 := Hid.mk hm1
  have HER := Hid.mk her
  clear hm1 her h0 he
  go_enter Tryz.func60, Tryz.ntmps60
  go_wp2_with fail
  refine (Zhc t x _ (Zcl ((Below.refl _ _).alloc (Nat.le_refl _) _) t x HLI.out)).mono ?_
  rintro e w1 ⟨rfl, hb⟩
  rw [HM1.out, HER.out]
  have HB1 := Hid.mk (((Below.refl w.heap.size w).alloc (Nat.le_refl _) _).trans (hb.mono (by simp)))
  clear hb
  go_wp2_with fail
  go_ret2
  exact ⟨⟨none, 0, 0, rfl, ⟨.inl ⟨rfl, rfl⟩, fun _ => ⟨rfl, rfl⟩, rfl, fun x hx => by cases hx⟩, fun g off e => by cases e⟩, HB1.out⟩
end Go.Proofs.YtefhepcplempkaaGreat

/- Nodes as plain data: the node that an item has the shape of, the item of a node, what may be, what bytes say; plain functions. -/
import Derived.Test.YtdkpilgelgjieaaGreatG09
import Derived.Test.YtdkpilgelgjieaaGreatG01
import Derived.Deep.RegionHeld3
set_option linter.unusedVariables false
set_option maxRecDepth 100000
namespace Go.Proofs.YtdkpilgelgjieaaGreat
open Ni (unpP packP rightP)
structure PR where
 k : Int
 d : List Int
 i : List Int
structure PN where
 k : Int
 p : List Int
 v : List Int
 c : PR
 ks : List PR
def z32 : List Int := List.replicate 32 0
def r0 : PR := ⟨0, z32, []⟩
def n0 : PN := ⟨0, [], [], r0, []⟩
def t0 : T := .mk false [] []
def refOfP (t : T) : Option PR :=
 if t.l = true then (if (mP t).2 = 0 then some ⟨1, z32, enc t⟩ else none)
 else if t.bs.length = 0 then some r0
 else if t.bs.length = 32 then some ⟨2, t.bs, []⟩ else none
def pathP (x y : T) : Option PN :=
 if x.l = true \/ (unpP x.bs).2.2 ≠ 0 then none
 else if (unpP x.bs).2.1 = true then (if y.l = true then none else some ⟨1, (unpP x.bs).1, y.bs, r0, []⟩)
 else match refOfP y with
  | none => none
  | some c => some ⟨2, (unpP x.bs).1, [], c, []⟩
def kidsP : List T -> Option (List PR)
 | [] => some []
 | t :: r => match refOfP t with
  | none => none
  | some a => match kidsP r with
   | none => none
   | some l => some (a :: l)
def branchP (ts : List T) (y : T) : Option PN := match kidsP ts with
 | none => none
 | some ks => if y.l = true then none else some ⟨3, [], y.bs, r0, ks⟩
def nodeOfP (t : T) : Option PN :=
 if t.its.length = 2 then pathP (t.its.getD 0 t0) (t.its.getD 1 t0)
 else if t.its.length = 17 then branchP (t.its.take 16) (t.its.getD 16 t0) else none
def kd (o : Option PN) : Int := match o with
 | none => 0
 | some n => n.k
def rrefP (dk : List Int -> Int) (r : PR) : Bool :=
 if r.k = 0 then decide (r.d = z32) && decide (r.i.length = 0)
 else if r.k = 2 then decide (r.i.length = 0)
 else if r.k = 1 then decide (r.d = z32) && decide (r.i.length < 32) && decide (dk r.i ≠ 0)
 else false
def rpathP (n : PN) : Bool :=
 if n.k = 2 then (if n.p.length = 0 then false else decide (n.p.length <= 64) && rightP n.p)
 else if n.k = 1 then decide (n.p.length <= 64) && rightP n.p
 else decide (n.p.length = 0)
def rvalueP (n : PN) : Bool :=
 if n.k = 1 then (if n.v.length = 0 then false else decide (n.v.length <= 256))
 else if n.k = 3 then decide (n.v.length <= 256)
 else decide (n.v.length = 0)
def rchildP (dk : List Int -> Int) (n : PN) : Bool :=
 if rrefP dk n.c = false then false
 else if n.k ≠ 2 then decide (n.c.k = 0)
 else decide (n.c.k = 2) || decide (dk n.c.i = 3)
def ways : List PR -> Nat
 | [] => 0
 | r :: l => (if r.k ≠ 0 then 1 else 0) + ways l
def rkidsP (dk : List Int -> Int) (n : PN) : Bool :=
 if n.k ≠ 3 then decide (n.ks.length = 0)
 else if n.ks.length ≠ 16 then false
 else n.ks.all (rrefP dk) && decide (2 <= (if 0 < n.v.length then 1 else 0) + ways n.ks)
def knownP (n : PN) : Bool := decide (n.k = 1) || decide (n.k = 2) || decide (n.k = 3)
def nright (dk : List Int -> Int) (n : PN) : Bool := knownP n && rpathP n && rvalueP n && rchildP dk n && rkidsP dk n
def ndec : Nat -> List Int -> Option PN
 | 0, _ => none
 | f + 1, b => match decP b with
  | .bad _ => none
  | .ok t => match nodeOfP t with
   | none => none
   | some n => if nright (fun i => kd (ndec f i)) n = true then some n else none
def ND (b : List Int) : Option PN := ndec 33 b
def KD (b : List Int) : Int := kd (ND b)
def NR (n : PN) : Bool := nright KD n
def refItemP (r : PR) : T :=
 if r.k = 1 then (match decP r.i with | .ok t => t | .bad _ => t0)
 else if r.k = 2 then .mk false r.d [] else t0
def itemP (n : PN) : T :=
 if n.k = 3 then .mk true [] (n.ks.map refItemP ++ [.mk false n.v []])
 else if n.k = 1 then .mk true [] [.mk false (packP n.p true).1 [], .mk false n.v []]
 else .mk true [] [.mk false (packP n.p false).1 [], refItemP n.c]
def isB (b : List Int) : Prop := ∀ x ∈ b, 0 <= x /\ x < 256
def okR (r : PR) : Prop := isB r.d /\ r.d.length = 32 /\ isB r.i
def okN (n : PN) : Prop := isB n.p /\ isB n.v /\ okR n.c /\ ∀ r ∈ n.ks, okR r

theorem Zjn {dk dk' : List Int -> Int} {r : PR} (h : r.i.length < 32 -> dk r.i = dk' r.i) : rrefP dk r = rrefP dk' r := by
 unfold rrefP
 by_cases h32 : r.i.length < 32
 ·rw [h h32]
 ·simp [h32]
theorem Zjm {dk : List Int -> Int} {r : PR} (h : rrefP dk r = true) : r.i.length < 32 := by
 unfold rrefP at h
 by_cases h0 : r.k = 0
 ·simp [h0] at h; rw [h.2]; decide
 ·by_cases h2 : r.k = 2
  ·simp [h2] at h; rw [h]; decide
  ·by_cases h1 : r.k = 1
   ·simp [h1] at h; omega
   ·simp [h0, h1, h2] at h
theorem Zmw {dk dk' : List Int -> Int} : ∀ {ks : List PR}, (∀ r ∈ ks, r.i.length < 32 -> dk r.i = dk' r.i) -> ks.all (rrefP dk) = ks.all (rrefP dk')
 | [], _ => rfl
 | r :: l, h => by
  rw [List.all_cons, List.all_cons, Zjn (h r (by simp)), Zmw fun x hx => h x (List.mem_cons_of_mem _ hx)]
theorem Zgp {dk dk' : List Int -> Int} {n : PN} (hc : n.c.i.length < 32 -> dk n.c.i = dk' n.c.i) (hk : ∀ r ∈ n.ks, r.i.length < 32 -> dk r.i = dk' r.i) : nright dk n = nright dk' n := by
 unfold nright rchildP rkidsP
 rw [Zmw hk, Zjn hc]
 by_cases h : rrefP dk' n.c = false
 ·simp [h]
 ·rw [hc (Zjm (by simpa using h))]
theorem Zff {b : List Int} {t : T} (hb : isB b) (h : decP b = .ok t) : enc t = b /\ (mP t).2 = 0 /\ form t = true := by
 have hr : rd 8 b = .ok t b.length := by
  unfold decP at h
  cases hq : rd 8 b with
  | bad e => rw [hq] at h; cases h
  | ok t' n =>
   rw [hq] at h
   dsimp only at h
   have := rd_n hq
   by_cases hn : n < b.length
   ·rw [if_pos hn] at h; cases h
   ·rw [if_neg hn] at h
    cases h
    rw [show n = b.length from by omega]
 obtain ⟨h1, h2⟩ := Zyh hb hr
 refine ⟨?_, h2, (Zi1 h2).2.2⟩
 unfold encP at h1
 rw [if_pos h2] at h1
 exact congrArg Prod.fst h1
theorem Zir {t : T} (hf : form t = true) (h : 0 < t.its.length) : t.l = true /\ t.bs = [] /\ forms t.its = true := by
 obtain ⟨l, bs, its⟩ := t
 cases l with
 | false => rw [Zb8 hf] at h; exact absurd h (by simp [T.its])
 | true => exact ⟨rfl, Zct hf⟩
theorem encL {t : T} (h : t.l = true) (hb : t.bs = []) : enc t = hd 192 (encs t.its).length ++ encs t.its := by
 obtain ⟨l, bs, its⟩ := t
 simp only [T.l, T.bs] at h hb
 subst h hb
 rw [Zcl, List.nil_append, if_neg (by simp [bare]), baseOf, if_pos rfl]
 rfl
theorem Zdt {l : List T} {i : Nat} (h : i < l.length) : l.getD i t0 ∈ l := by
 rw [List.getD, List.getElem?_eq_getElem h]
 exact List.getElem_mem h
theorem Zgz : ∀ {its : List T} {t : T}, t ∈ its -> ∀ x ∈ enc t, x ∈ encs its
 | y :: r, t, ht, x, hx => by
  rw [Za7]
  rcases List.mem_cons.1 ht with rfl | ht
  ·exact List.mem_append_left _ hx
  ·exact List.mem_append_right _ (Zgz ht x hx)
theorem Zh1 {b : List Int} {t u : T} (hb : isB b) (h : decP b = .ok t) (hu : u ∈ t.its) : (enc u).length < b.length /\ ∀ x ∈ enc u, x ∈ b := by
 obtain ⟨h1, h2, h3⟩ := Zff hb h
 obtain ⟨l1, l2, l3⟩ := Zir h3 (List.length_pos_of_mem hu)
 rw [encL l1 l2] at h1
 have := Zc7 hu
 have := Zo3 192 (encs t.its).length
 rw [<- h1]
 refine ⟨by rw [List.length_append]; omega, fun x hx => List.mem_append_right _ (Zgz hu x hx)⟩
theorem Zxj {u : T} {r : PR} (h : refOfP u = some r) : r.i = enc u \/ r.i = [] := by
 unfold refOfP at h
 by_cases hl : u.l = true
 ·rw [if_pos hl] at h
  by_cases hm : (mP u).2 = 0
  ·rw [if_pos hm] at h; cases h; exact .inl rfl
  ·rw [if_neg hm] at h; cases h
 ·rw [if_neg hl] at h
  by_cases h0 : u.bs.length = 0
  ·rw [if_pos h0] at h; cases h; exact .inr rfl
  ·rw [if_neg h0] at h
   by_cases h32 : u.bs.length = 32
   ·rw [if_pos h32] at h; cases h; exact .inr rfl
   ·rw [if_neg h32] at h; cases h
theorem Zox : ∀ {ts : List T} {ks : List PR}, kidsP ts = some ks -> ks.length = ts.length /\ ∀ r ∈ ks, ∃ u ∈ ts, refOfP u = some r
 | [], ks, h => by cases h; exact ⟨rfl, fun r hr => by cases hr⟩
 | t :: l, ks, h => by
  rw [kidsP] at h
  cases hr : refOfP t with
  | none => rw [hr] at h; cases h
  | some a =>
   rw [hr] at h
   dsimp only at h
   cases hk : kidsP l with
   | none => rw [hk] at h; cases h
   | some l' =>
    rw [hk] at h
    cases h
    obtain ⟨h1, h2⟩ := Zox hk
    refine ⟨by simp [h1], fun r hr' => ?_⟩
    rcases List.mem_cons.1 hr' with rfl | hr'
    ·exact ⟨t, by simp, hr⟩
    ·obtain ⟨u, hu, e⟩ := h2 r hr'
     exact ⟨u, by simp [hu], e⟩
theorem Zim {t : T} {n : PN} (h : nodeOfP t = some n) : 0 < t.its.length /\ ∀ r, (r = n.c \/ r ∈ n.ks) -> r.i = [] \/ ∃ u ∈ t.its, refOfP u = some r := by
 unfold nodeOfP at h
 by_cases h2 : t.its.length = 2
 ·rw [if_pos h2] at h
  refine ⟨by omega, ?_⟩
  unfold pathP at h
  split at h
  ·cases h
  ·split at h
   ·split at h
    ·cases h
    ·cases h
     intro r hr
     rcases hr with rfl | hr
     ·exact .inl rfl
     ·cases hr
   ·cases hq : refOfP (t.its.getD 1 t0) with
    | none => rw [hq] at h; cases h
    | some c =>
     rw [hq] at h
     cases h
     intro r hr
     rcases hr with rfl | hr
     ·exact .inr ⟨_, Zdt (by omega), hq⟩
     ·cases hr
 ·rw [if_neg h2] at h
  by_cases h17 : t.its.length = 17
  ·rw [if_pos h17] at h
   refine ⟨by omega, ?_⟩
   unfold branchP at h
   cases hk : kidsP (t.its.take 16) with
   | none => rw [hk] at h; cases h
   | some ks =>
    rw [hk] at h
    dsimp only at h
    split at h
    ·cases h
    ·cases h
     intro r hr
     rcases hr with rfl | hr
     ·exact .inl rfl
     ·obtain ⟨u, hu, e⟩ := (Zox hk).2 r hr
      exact .inr ⟨u, List.mem_of_mem_take hu, e⟩
  ·rw [if_neg h17] at h; cases h
theorem Zk3 {b : List Int} {t : T} {n : PN} (hb : isB b) (h : decP b = .ok t) (hn : nodeOfP t = some n) : ∀ r, (r = n.c \/ r ∈ n.ks) -> r.i.length < b.length /\ isB r.i := by
 obtain ⟨h0, hr⟩ := Zim hn
 have hu0 := (Zh1 hb h (Zdt h0)).1
 intro r hrr
 rcases hr r hrr with e | ⟨u, hu, e⟩
 ·rw [e]; exact ⟨by simp; omega, fun x hx => by cases hx⟩
 ·obtain ⟨s1, s2⟩ := Zh1 hb h hu
  rcases Zxj e with e | e
  ·rw [e]; exact ⟨s1, fun x hx => hb x (s2 x hx)⟩
  ·rw [e]; exact ⟨by simp; omega, fun x hx => by cases hx⟩
theorem Zsj : ∀ (L : Nat) (b : List Int), b.length <= L -> isB b -> ∀ f f', b.length < f -> b.length < f' -> ndec f b = ndec f' b := by
 intro L
 induction L using Nat.strongRecOn with
 | _ L ih =>
  intro b hL hb f f' hf hf'
  obtain ⟨g, rfl⟩ : ∃ g, f = g + 1 := ⟨f - 1, by omega⟩
  obtain ⟨g', rfl⟩ : ∃ g', f' = g' + 1 := ⟨f' - 1, by omega⟩
  rw [ndec, ndec]
  cases hd : decP b with
  | bad e => rfl
  | ok t =>
   dsimp only
   cases hn : nodeOfP t with
   | none => rfl
   | some n =>
    dsimp only
    have hs := Zk3 hb hd hn
    have hcg : ∀ r, (r = n.c \/ r ∈ n.ks) -> ndec g r.i = ndec g' r.i := fun r hr => by
     obtain ⟨s1, s2⟩ := hs r hr
     exact ih r.i.length (by omega) r.i (Nat.le_refl _) s2 g g' (by omega) (by omega)
    rw [Zgp (dk := fun i => kd (ndec g i)) (dk' := fun i => kd (ndec g' i)) (fun _ => by rw [hcg _ (.inl rfl)]) (fun r hr _ => by rw [hcg _ (.inr hr)])]
theorem Zvw {b : List Int} (hb : isB b) : ND b = match decP b with
  | .bad _ => none
  | .ok t => match nodeOfP t with
   | none => none
   | some n => if NR n = true then some n else none := by
 show ndec (32 + 1) b = _
 rw [ndec]
 cases hd : decP b with
 | bad e => rfl
 | ok t =>
  dsimp only
  cases hn : nodeOfP t with
  | none => rfl
  | some n =>
   dsimp only
   have hs := Zk3 hb hd hn
   have hcg : ∀ r, (r = n.c \/ r ∈ n.ks) -> r.i.length < 32 -> ndec 32 r.i = ND r.i := fun r hr h32 => by
    obtain ⟨s1, s2⟩ := hs r hr
    exact Zsj r.i.length r.i (Nat.le_refl _) s2 32 33 (by omega) (by omega)
   rw [Zgp (dk := fun i => kd (ndec 32 i)) (dk' := KD) (fun h => by unfold KD; rw [hcg _ (.inl rfl) h]) (fun r hr h => by unfold KD; rw [hcg _ (.inr hr) h])]
   rfl
theorem Zen {b : List Int} {n : PN} (hb : isB b) (h : ND b = some n) : ∃ t, decP b = .ok t /\ nodeOfP t = some n /\ NR n = true := by
 rw [Zvw hb] at h
 cases hd : decP b with
 | bad e => rw [hd] at h; cases h
 | ok t =>
  rw [hd] at h
  dsimp only at h
  cases hn : nodeOfP t with
  | none => rw [hn] at h; cases h
  | some m =>
   rw [hn] at h
   dsimp only at h
   by_cases hr : NR m = true
   ·rw [if_pos hr] at h; cases h; exact ⟨t, rfl, hn, hr⟩
   ·rw [if_neg hr] at h; cases h
theorem Z0d {b : List Int} {t : T} {n : PN} (hb : isB b) (hd : decP b = .ok t) (hn : nodeOfP t = some n) (hr : NR n = true) : ND b = some n := by
 rw [Zvw hb, hd]
 dsimp only
 rw [hn]
 dsimp only
 rw [if_pos hr]
theorem Zny {n : PN} (h : NR n = true) : n.k = 1 \/ n.k = 2 \/ n.k = 3 := by
 unfold NR nright knownP at h
 simp only [Bool.and_eq_true, Bool.or_eq_true, decide_eq_true_eq] at h
 omega
theorem Zi6 {b : List Int} (h : KD b ≠ 0) : ∃ n, ND b = some n /\ n.k = KD b := by
 unfold KD at h ⊢
 cases hq : ND b with
 | none => rw [hq] at h; exact absurd rfl h
 | some n => exact ⟨n, rfl, rfl⟩
def OkD (D : Nat) (t : T) : Prop := ∀ d w, d <= D -> w + (enc t).length <= 16777215 -> (wk t d w).2 = 0 /\ (wk t d w).1 <= w + (enc t).length
theorem OkD.mono {D E : Nat} {t : T} (h : OkD D t) (he : E <= D) : OkD E t := fun d w hd hw => h d w (by omega) hw
theorem Zml (bs : List Int) : max bs.length 1 <= (enc (.mk false bs [])).length := by
 have h1 := Zi0 (.mk false bs [])
 have h2 := Zc8 (.mk false bs [])
 rw [show bodyOf (.mk false bs []) = bs from by rw [bodyOf, T.bs, T.its, Za2, List.append_nil]] at h2
 omega
theorem Zfa (D : Nat) (bs : List Int) : OkD D (.mk false bs []) := fun d w hd hw => by
 have hl := Zml bs
 have hwt : wt false bs d = max bs.length 1 := by unfold wt; simp
 rw [Zkj, if_neg (by simp), if_neg (by simp [wrongForm]), hwt, if_neg (by omega), Zch]
 exact ⟨rfl, by dsimp only; omega⟩
theorem Zvz {D : Nat} : ∀ {ts : List T}, (∀ t ∈ ts, OkD D t) -> ∀ d w, d <= D -> w + (encs ts).length <= 16777215 -> (wks ts d w).2 = 0 /\ (wks ts d w).1 <= w + (encs ts).length
 | [], _, d, w, _, _ => by rw [Zch]; exact ⟨rfl, by simp⟩
 | t :: r, h, d, w, hd, hw => by
  rw [Za7, List.length_append] at hw ⊢
  obtain ⟨h1, h2⟩ := h t (by simp) d w hd (by omega)
  rw [Zc9, if_pos h1]
  obtain ⟨h3, h4⟩ := Zvz (fun u hu => h u (List.mem_cons_of_mem _ hu)) d (wk t d w).1 hd (by omega)
  exact ⟨h3, by omega⟩
theorem Zsa {D : Nat} (hD : D <= 7) {ts : List T} (h : ∀ t ∈ ts, OkD (D + 1) t) : OkD D (.mk true [] ts) := fun d w hdd hw => by
 have he : (enc (.mk true [] ts)).length = (hd 192 (encs ts).length).length + (encs ts).length := by rw [encL (t := .mk true [] ts) rfl rfl, List.length_append]; rfl
 have hp := Zo3 192 (encs ts).length
 have hwt : wt true [] d <= 1 := by unfold wt; split <;> simp
 rw [Zkj, if_neg (by simp; omega), if_neg (by simp [wrongForm]), if_neg (by omega)]
 obtain ⟨h1, h2⟩ := Zvz h (d + 1) (w + wt true [] d) (by omega) (by omega)
 exact ⟨h1, by omega⟩
theorem Zzg {D : Nat} {t : T} (h : OkD D t) (hf : form t = true) (hl : (enc t).length <= 16777215) : (mP t).2 = 0 := by
 have h0 := (h 0 0 (by omega) (by omega)).1
 have hb := Zc8 t
 unfold mP
 rw [if_neg (by rw [h0]; simp), if_neg (by rw [Zh0 hf]; omega)]
theorem Zsl {bs : List Int} (h : bs.length <= 65536) : (mP (.mk false bs [])).2 = 0 := by
 refine Zzg (Zfa 0 bs) (by rw [Zeh]; simp [Zck]) ?_
 rw [Zcl, Za2, List.append_nil]
 have := Zvf (base := baseOf false) (n := bs.length) (by omega)
 split
 ·omega
 ·rw [List.length_append]; omega
theorem Zdk {dk : List Int -> Int} {r : PR} (h : rrefP dk r = true) : (r.k = 0 /\ r.d = z32 /\ r.i = []) \/ (r.k = 2 /\ r.i = []) \/ (r.k = 1 /\ r.d = z32 /\ r.i.length < 32 /\ dk r.i ≠ 0) := by
 unfold rrefP at h
 by_cases h0 : r.k = 0
 ·simp [h0] at h; exact .inl ⟨h0, h.1, h.2⟩
 ·by_cases h2 : r.k = 2
  ·simp [h2] at h; exact .inr (.inl ⟨h2, h⟩)
  ·by_cases h1 : r.k = 1
   ·simp [h1] at h; exact .inr (.inr ⟨h1, h.1.1, h.1.2, h.2⟩)
   ·simp [h0, h1, h2] at h
theorem Zd3 {b : List Int} {t : T} {n : PN} (hb : isB b) (hd : decP b = .ok t) (hn : nodeOfP t = some n) : t.l = true /\ t.bs = [] /\ forms t.its = true := Zir (Zff hb hd).2.2 (Zim hn).1
theorem PR.ext {a b : PR} (h1 : a.k = b.k) (h2 : a.d = b.d) (h3 : a.i = b.i) : a = b := by cases a; cases b; simp_all
theorem PN.ext {a b : PN} (h1 : a.k = b.k) (h2 : a.p = b.p) (h3 : a.v = b.v) (h4 : a.c = b.c) (h5 : a.ks = b.ks) : a = b := by cases a; cases b; simp_all
theorem Zhd {r : PR} (ho : okR r) (h : rrefP KD r = true) : refOfP (refItemP r) = some r /\ (mP (refItemP r)).2 = 0 /\ (enc (refItemP r)).length <= 36 := by
 rcases Zdk h with ⟨h1, h2, h3⟩ | ⟨h1, h2⟩ | ⟨h1, h2, h3, h4⟩
 ·have e : refItemP r = t0 := by unfold refItemP; rw [if_neg (by omega), if_neg (by omega)]
  rw [e]
  refine ⟨?_, Zsl (by simp), by decide +kernel⟩
  unfold refOfP
  rw [if_neg (by simp [t0, T.l]), if_pos (by rfl)]
  exact congrArg some (PR.ext h1.symm h2.symm h3.symm)
 ·have e : refItemP r = .mk false r.d [] := by unfold refItemP; rw [if_neg (by omega), if_pos h1]
  rw [e]
  have hl := ho.2.1
  refine ⟨?_, Zsl (by omega), ?_⟩
  ·unfold refOfP
   rw [if_neg (by simp [T.l]), if_neg (by show ¬ r.d.length = 0; omega), if_pos (by exact hl)]
   exact congrArg some (PR.ext h1.symm rfl h2.symm)
  ·rw [Zcl, Za2, List.append_nil]
   have := Zvf (base := baseOf false) (n := r.d.length) (by omega)
   split
   ·omega
   ·rw [List.length_append]; omega
 ·obtain ⟨m, hm, _⟩ := Zi6 h4
  obtain ⟨t, hd, hn, hr⟩ := Zen ho.2.2 hm
  have e : refItemP r = t := by unfold refItemP; rw [if_pos h1, hd]
  rw [e]
  obtain ⟨e1, e2, e3⟩ := Zff ho.2.2 hd
  refine ⟨?_, e2, by rw [e1]; omega⟩
  unfold refOfP
  rw [if_pos (Zd3 ho.2.2 hd hn).1, if_pos e2, e1]
  exact congrArg some (PR.ext h1.symm h2.symm rfl)
theorem Zea {u : T} (hf : form u = true) (h : ¬ u.l = true) : u = .mk false u.bs [] := by
 obtain ⟨l, bs, its⟩ := u
 have hl : l = false := by simpa [T.l] using h
 subst hl
 rw [Zb8 hf]
 rfl
theorem Zhc {u : T} {r : PR} (hf : form u = true) (h : refOfP u = some r) : refItemP r = u /\ (u.l = true -> (mP u).2 = 0 /\ r = ⟨1, z32, enc u⟩) /\ (¬ u.l = true -> r.k ≠ 1) := by
 unfold refOfP at h
 by_cases hl : u.l = true
 ·rw [if_pos hl] at h
  by_cases hm : (mP u).2 = 0
  ·rw [if_pos hm] at h
   cases h
   refine ⟨?_, fun _ => ⟨hm, rfl⟩, fun h => absurd hl h⟩
   unfold refItemP
   rw [if_pos rfl, Zk9 hm]
  ·rw [if_neg hm] at h; cases h
 ·rw [if_neg hl] at h
  have ht := Zea hf hl
  by_cases h0 : u.bs.length = 0
  ·rw [if_pos h0] at h
   cases h
   refine ⟨?_, fun h => absurd h hl, fun _ => by show (0 : Int) ≠ 1; decide⟩
   rw [ht, List.eq_nil_of_length_eq_zero h0]
   rfl
  ·rw [if_neg h0] at h
   by_cases h32 : u.bs.length = 32
   ·rw [if_pos h32] at h
    cases h
    refine ⟨?_, fun h => absurd h hl, fun _ => by show (2 : Int) ≠ 1; decide⟩
    rw [ht]
    rfl
   ·rw [if_neg h32] at h; cases h
theorem Zmf : ∀ {ks : List PR}, (∀ r ∈ ks, refOfP (refItemP r) = some r) -> kidsP (ks.map refItemP) = some ks
 | [], _ => rfl
 | r :: l, h => by rw [List.map_cons, kidsP, h r (by simp), Zmf fun x hx => h x (List.mem_cons_of_mem _ hx)]
theorem Zmc : ∀ {ts : List T} {ks : List PR}, (∀ t ∈ ts, form t = true) -> kidsP ts = some ks -> ks.map refItemP = ts
 | [], ks, _, h => by cases h; rfl
 | t :: l, ks, hf, h => by
  rw [kidsP] at h
  cases hr : refOfP t with
  | none => rw [hr] at h; cases h
  | some a =>
   rw [hr] at h
   dsimp only at h
   cases hk : kidsP l with
   | none => rw [hk] at h; cases h
   | some l' =>
    rw [hk] at h
    cases h
    rw [List.map_cons, (Zhc (hf t (by simp)) hr).1, Zmc (fun u hu => hf u (List.mem_cons_of_mem _ hu)) hk]
theorem Zhs {n : PN} (h : NR n = true) : (n.k = 1 /\ n.p.length <= 64 /\ rightP n.p = true /\ 0 < n.v.length /\ n.v.length <= 256 /\ rrefP KD n.c = true /\ n.c.k = 0 /\ n.ks = []) ∨
  (n.k = 2 /\ 0 < n.p.length /\ n.p.length <= 64 /\ rightP n.p = true /\ n.v = [] /\ rrefP KD n.c = true /\ (n.c.k = 2 \/ KD n.c.i = 3) /\ n.ks = []) ∨
  (n.k = 3 /\ n.p = [] /\ n.v.length <= 256 /\ rrefP KD n.c = true /\ n.c.k = 0 /\ n.ks.length = 16 /\ (∀ r ∈ n.ks, rrefP KD r = true) /\ 2 <= (if 0 < n.v.length then 1 else 0) + ways n.ks) := by
 have hk := Zny h
 unfold NR nright rpathP rvalueP rchildP rkidsP at h
 have hch : rrefP KD n.c = true := by
  cases hq : rrefP KD n.c with
  | true => rfl
  | false => rw [hq] at h; simp at h
 rcases hk with hk | hk | hk
 ·left
  simp [hk, hch] at h
  obtain ⟨⟨⟨⟨_, h1, h2⟩, h3, h4⟩, h5⟩, h6⟩ := h
  exact ⟨hk, h1, h2, List.length_pos_iff.2 h3, h4, hch, h5, h6⟩
 ·right; left
  simp [hk, hch] at h
  obtain ⟨⟨⟨⟨_, h1, h2, h3⟩, h4⟩, h5⟩, h6⟩ := h
  exact ⟨hk, List.length_pos_iff.2 h1, h2, h3, h4, hch, h5, h6⟩
 ·right; right
  simp [hk, hch] at h
  obtain ⟨⟨⟨⟨_, h1⟩, h2⟩, h3⟩, h4, h5, h6⟩ := h
  exact ⟨hk, h1, h2, hch, h3, h4, h5, by simpa using h6⟩
theorem Zme : ∀ {ts : List T} {ks : List PR}, kidsP ts = some ks -> ∀ u ∈ ts, ∃ r ∈ ks, refOfP u = some r
 | [], ks, h, u, hu => by cases hu
 | t :: l, ks, h, u, hu => by
  rw [kidsP] at h
  cases hr : refOfP t with
  | none => rw [hr] at h; cases h
  | some a =>
   rw [hr] at h
   dsimp only at h
   cases hk : kidsP l with
   | none => rw [hk] at h; cases h
   | some l' =>
    rw [hk] at h
    cases h
    rcases List.mem_cons.1 hu with rfl | hu
    ·exact ⟨a, by simp, hr⟩
    ·obtain ⟨r, h1, h2⟩ := Zme hk u hu
     exact ⟨r, by simp [h1], h2⟩
theorem Zj5 : ∀ its : List T, its.length <= (encs its).length
 | [] => by simp
 | t :: r => by
  have := Zi0 t
  have := Zj5 r
  rw [Za7, List.length_append, List.length_cons]; omega
theorem Zg0 : ∀ {its : List T} {u : T}, u ∈ its -> (enc u).length + its.length <= (encs its).length + 1
 | t :: r, u, hu => by
  rw [Za7, List.length_append, List.length_cons]
  have := Zi0 t
  rcases List.mem_cons.1 hu with rfl | hu
  ·have := Zj5 r; omega
  ·have := Zg0 hu; omega
theorem Zy5 {its : List T} (h : its.length = 2) : its = [its.getD 0 t0, its.getD 1 t0] := by
 match its, h with
 | [x, y], _ => rfl
theorem Zlm {its : List T} (h : its.length = 17) : its = its.take 16 ++ [its.getD 16 t0] := by
 have h1 : its.drop 16 = [its.getD 16 t0] := by
  rw [List.drop_eq_getElem_cons (by omega), List.drop_of_length_le (by omega), List.getD, List.getElem?_eq_getElem (by omega)]
  rfl
 rw [<- h1, List.take_append_drop]
theorem Zgq {t : T} {n : PN} (hf : forms t.its = true) (h : nodeOfP t = some n) :
  (∃ x y, t.its = [x, y] /\ x = .mk false x.bs [] /\ (unpP x.bs).2.2 = 0 /\ (((unpP x.bs).2.1 = true /\ y = .mk false y.bs [] /\ n = ⟨1, (unpP x.bs).1, y.bs, r0, []⟩) \/ ((unpP x.bs).2.1 = false /\ ∃ c, refOfP y = some c /\ form y = true /\ n = ⟨2, (unpP x.bs).1, [], c, []⟩))) ∨
  (∃ ts y ks, t.its = ts ++ [y] /\ ts.length = 16 /\ y = .mk false y.bs [] /\ kidsP ts = some ks /\ (∀ u ∈ ts, form u = true) /\ n = ⟨3, [], y.bs, r0, ks⟩) := by
 unfold nodeOfP at h
 by_cases h2 : t.its.length = 2
 ·rw [if_pos h2] at h
  left
  have hit := Zy5 h2
  generalize t.its.getD 0 t0 = x at h hit
  generalize t.its.getD 1 t0 = y at h hit
  have fx := Zbl hf x (by rw [hit]; simp)
  have fy := Zbl hf y (by rw [hit]; simp)
  unfold pathP at h
  by_cases hb : x.l = true \/ (unpP x.bs).2.2 ≠ 0
  ·rw [if_pos hb] at h; cases h
  ·rw [if_neg hb] at h
   have hxl : ¬ x.l = true := fun e => hb (.inl e)
   have hxe : (unpP x.bs).2.2 = 0 := Decidable.byContradiction fun e => hb (.inr e)
   refine ⟨x, y, hit, Zea fx hxl, hxe, ?_⟩
   by_cases hl : (unpP x.bs).2.1 = true
   ·rw [if_pos hl] at h
    by_cases hy : y.l = true
    ·rw [if_pos hy] at h; cases h
    ·rw [if_neg hy] at h; cases h
     exact .inl ⟨hl, Zea fy hy, rfl⟩
   ·rw [if_neg hl] at h
    cases hq : refOfP y with
    | none => rw [hq] at h; cases h
    | some c =>
     rw [hq] at h; cases h
     exact .inr ⟨by simpa using hl, c, rfl, fy, rfl⟩
 ·rw [if_neg h2] at h
  by_cases h17 : t.its.length = 17
  ·rw [if_pos h17] at h
   right
   have hit := Zlm h17
   have hl16 : (t.its.take 16).length = 16 := by rw [List.length_take]; omega
   generalize t.its.take 16 = ts at h hit hl16
   generalize t.its.getD 16 t0 = y at h hit
   have fy := Zbl hf y (by rw [hit]; simp)
   unfold branchP at h
   cases hk : kidsP ts with
   | none => rw [hk] at h; cases h
   | some ks =>
    rw [hk] at h
    dsimp only at h
    by_cases hy : y.l = true
    ·rw [if_pos hy] at h; cases h
    ·rw [if_neg hy] at h; cases h
     exact ⟨ts, y, ks, hit, hl16, Zea fy hy, hk, fun u hu => Zbl hf u (by rw [hit]; simp [hu]), rfl⟩
  ·rw [if_neg h17] at h; cases h
theorem Zk2 {y : T} (h : y = .mk false y.bs []) : ¬ y.l = true := by rw [h]; simp [T.l]
theorem Ztd {b : List Int} {t u : T} (hb : isB b) (h : decP b = .ok t) (hu : u ∈ t.its) : isB (enc u) := fun x hx => hb x ((Zh1 hb h hu).2 x hx)
theorem Zg9 {i : List Int} {t u : T} {m : PN} (hb : isB i) (hm : ND i = some m) (hd' : decP i = .ok t) (hu : u ∈ t.its) (hl : u.l = true) :
  ∃ m', ND (enc u) = some m' /\ decP (enc u) = .ok u /\ isB (enc u) /\ ((m.k = 2 /\ m'.k = 3 /\ (enc u).length + 2 <= i.length) \/ (m.k = 3 /\ (enc u).length + 17 <= i.length)) := by
 obtain ⟨t', e1, hn, hr⟩ := Zen hb hm
 rw [hd'] at e1
 cases e1
 obtain ⟨e1, e2, e3⟩ := Zff hb hd'
 obtain ⟨l1, l2, l3⟩ := Zd3 hb hd' hn
 have hlen : i.length = (hd 192 (encs t.its).length).length + (encs t.its).length := by rw [<- e1, encL l1 l2, List.length_append]
 have hp := Zo3 192 (encs t.its).length
 have hml := Zg0 hu
 have hbu := Ztd hb hd' hu
 rcases Zgq l3 hn with ⟨x, y, hit, hx, _, hc⟩ | ⟨ts, y, ks, hit, h16, hy, hk, hfs, rfl⟩
 ·have hit2 : t.its.length = 2 := by rw [hit]; rfl
  rw [hit] at hu
  simp only [List.mem_cons, List.not_mem_nil, or_false] at hu
  rcases hu with rfl | rfl
  ·exact absurd hl (Zk2 hx)
  ·rcases hc with ⟨_, hy, _⟩ | ⟨_, c, hc, hf, rfl⟩
   ·exact absurd hl (Zk2 hy)
   ·obtain ⟨hmu, hcr⟩ := (Zhc hf hc).2.1 hl
    rcases Zhs hr with h | h | h
    ·exact absurd h.1 (by simp)
    ·obtain ⟨_, _, _, _, _, _, hcc, _⟩ := h
     rw [hcr] at hcc
     have hk3 : KD (enc u) = 3 := by
      rcases hcc with hcc | hcc
      ·exact absurd hcc (by simp)
      ·exact hcc
     obtain ⟨m', hm', hk'⟩ := Zi6 (b := enc u) (by rw [hk3]; decide)
     exact ⟨m', hm', Zk9 hmu, hbu, .inl ⟨rfl, by rw [hk', hk3], by omega⟩⟩
    ·exact absurd h.1 (by simp)
 ·have hit2 : t.its.length = 17 := by rw [hit, List.length_append, h16]; rfl
  rw [hit] at hu
  rcases List.mem_append.1 hu with hu | hu
  ·obtain ⟨r, hr1, hr2⟩ := Zme hk u hu
   obtain ⟨hmu, hcr⟩ := (Zhc (hfs u hu) hr2).2.1 hl
   rcases Zhs hr with h | h | h
   ·exact absurd h.1 (by simp)
   ·exact absurd h.1 (by simp)
   ·obtain ⟨_, _, _, _, _, _, hall, _⟩ := h
    have := hall r hr1
    rw [hcr] at this
    rcases Zdk this with h | h | h
    ·exact absurd h.1 (by show ¬ (1 : Int) = 0; decide)
    ·exact absurd h.1 (by show ¬ (1 : Int) = 2; decide)
    ·obtain ⟨m', hm', _⟩ := Zi6 (b := enc u) h.2.2.2
     exact ⟨m', hm', Zk9 hmu, hbu, .inr ⟨rfl, by omega⟩⟩
  ·simp only [List.mem_cons, List.not_mem_nil, or_false] at hu
   subst hu
   exact absurd hl (Zk2 hy)
theorem Zk1 {i : List Int} {t : T} {m : PN} (hb : isB i) (hm : ND i = some m) (hd' : decP i = .ok t) {D : Nat} (hD : D <= 7) (h : ∀ u ∈ t.its, u.l = true -> OkD (D + 1) u) : OkD D t := by
 obtain ⟨t', e1, hn, hr⟩ := Zen hb hm
 rw [hd'] at e1
 cases e1
 obtain ⟨l1, l2, l3⟩ := Zd3 hb hd' hn
 obtain ⟨l, bs, its⟩ := t
 simp only [T.l, T.bs, T.its] at l1 l2 l3 h
 subst l1 l2
 refine Zsa hD fun u hu => ?_
 by_cases hl : u.l = true
 ·exact h u hu hl
 ·rw [Zea (Zbl l3 u hu) hl]; exact Zfa _ _
theorem ok1 {i : List Int} {t : T} {m : PN} (hb : isB i) (hm : ND i = some m) (hd' : decP i = .ok t) (hk : m.k = 3) (hl : i.length <= 16) : OkD 7 t := by
 refine Zk1 hb hm hd' (Nat.le_refl _) fun u hu hul => ?_
 obtain ⟨m', _, _, _, h | h⟩ := Zg9 hb hm hd' hu hul
 ·omega
 ·omega
theorem ok2 {i : List Int} {t : T} {m : PN} (hb : isB i) (hm : ND i = some m) (hd' : decP i = .ok t) (hl : i.length <= 16) : OkD 6 t := by
 refine Zk1 hb hm hd' (by omega) fun u hu hul => ?_
 obtain ⟨m', h1, h2, h3, h | h⟩ := Zg9 hb hm hd' hu hul
 ·exact ok1 h3 h1 h2 h.2.1 (by omega)
 ·omega
theorem ok3 {i : List Int} {t : T} {m : PN} (hb : isB i) (hm : ND i = some m) (hd' : decP i = .ok t) (hk : m.k = 3) (hl : i.length <= 33) : OkD 5 t := by
 refine Zk1 hb hm hd' (by omega) fun u hu hul => ?_
 obtain ⟨m', h1, h2, h3, h | h⟩ := Zg9 hb hm hd' hu hul
 ·omega
 ·exact ok2 h3 h1 h2 (by omega)
theorem ok4 {i : List Int} {t : T} {m : PN} (hb : isB i) (hm : ND i = some m) (hd' : decP i = .ok t) (hl : i.length <= 33) : OkD 4 t := by
 refine Zk1 hb hm hd' (by omega) fun u hu hul => ?_
 obtain ⟨m', h1, h2, h3, h | h⟩ := Zg9 hb hm hd' hu hul
 ·exact ok3 h3 h1 h2 h.2.1 (by omega)
 ·exact (ok2 h3 h1 h2 (by omega)).mono (by omega)
theorem Zwb {r : PR} (ho : okR r) (h : rrefP KD r = true) : OkD 4 (refItemP r) /\ form (refItemP r) = true := by
 refine ⟨?_, (Zi1 (Zhd ho h).2.1).2.2⟩
 rcases Zdk h with ⟨h1, h2, h3⟩ | ⟨h1, h2⟩ | ⟨h1, h2, h3, h4⟩
 ·have e : refItemP r = t0 := by unfold refItemP; rw [if_neg (by omega), if_neg (by omega)]
  rw [e]; exact Zfa _ _
 ·have e : refItemP r = .mk false r.d [] := by unfold refItemP; rw [if_neg (by omega), if_pos h1]
  rw [e]; exact Zfa _ _
 ·obtain ⟨m, hm, _⟩ := Zi6 h4
  obtain ⟨t, hd', hn, hr⟩ := Zen ho.2.2 hm
  have e : refItemP r = t := by unfold refItemP; rw [if_pos h1, hd']
  rw [e]
  exact ok4 ho.2.2 hm hd' (by omega)
theorem Zf7 (bs : List Int) : form (.mk false bs []) = true := by rw [Zeh]; simp [Zck]
theorem Zg8 {bs : List Int} (h : bs.length <= 65536) : (enc (.mk false bs [])).length <= bs.length + 4 := by
 rw [Zcl, Za2, List.append_nil]
 have := Zvf (base := baseOf false) (n := bs.length) (by omega)
 split
 ·omega
 ·rw [List.length_append]; omega
theorem Ztc {c : Nat} : ∀ {ts : List T}, (∀ t ∈ ts, (enc t).length <= c) -> (encs ts).length <= c * ts.length
 | [], _ => by rw [Za2]; simp
 | t :: r, h => by
  have := h t (by simp)
  have := Ztc fun u hu => h u (List.mem_cons_of_mem _ hu)
  rw [Za7, List.length_append, List.length_cons, Nat.mul_succ]; omega
theorem Zgb {ts : List T} (h : ∀ t ∈ ts, OkD 4 t /\ form t = true) (hl : (encs ts).length <= 65536) : (mP (.mk true [] ts)).2 = 0 /\ (enc (.mk true [] ts)).length <= 65540 := by
 have he : enc (.mk true [] ts) = hd 192 (encs ts).length ++ encs ts := encL (t := .mk true [] ts) rfl rfl
 have hle := Zvf (base := 192) (n := (encs ts).length) (by omega)
 have hlen : (enc (.mk true [] ts)).length <= 65540 := by rw [he, List.length_append]; omega
 refine ⟨Zzg (D := 3) (Zsa (by omega) fun t ht => (h t ht).1) ?_ (by omega), hlen⟩
 rw [Zeh, if_pos rfl, Zo5 fun t ht => (h t ht).2]
 rfl
theorem Zl5 {p : List Int} (leaf : Bool) (h : p.length <= 64) : (packP p leaf).1.length <= 33 := by
 unfold packP
 split
 ·dsimp only; rw [Ni.pack_len]; omega
 ·simp
theorem Zc5 {n : PN} (ho : okN n) (h : NR n = true) : (mP (itemP n)).2 = 0 /\ nodeOfP (itemP n) = some n /\ (enc (itemP n)).length <= 65540 := by
 obtain ⟨ho1, ho2, ho3, ho4⟩ := ho
 rcases Zhs h with ⟨hk, h1, h2, h3, h4, h5, h6, h7⟩ | ⟨hk, h1, h2, h3, h4, h5, h6, h7⟩ | ⟨hk, h1, h2, h3, h4, h5, h6, h7⟩
 ·have e : itemP n = .mk true [] [.mk false (packP n.p true).1 [], .mk false n.v []] := by unfold itemP; rw [if_neg (by omega), if_pos hk]
  rw [e]
  have hpl := Zl5 true h1
  obtain ⟨r1, r2⟩ := Zgb (ts := [.mk false (packP n.p true).1 [], .mk false n.v []]) (fun t ht => by
   simp only [List.mem_cons, List.not_mem_nil, or_false] at ht
   rcases ht with rfl | rfl <;> exact ⟨Zfa _ _, Zf7 _⟩) (by
   have a1 := Zg8 (bs := (packP n.p true).1) (by omega)
   have a2 := Zg8 (bs := n.v) (by omega)
   rw [Za7, Za7, Za2, List.length_append, List.length_append, List.length_nil]; omega)
  refine ⟨r1, ?_, r2⟩
  unfold nodeOfP
  rw [if_pos (by rfl)]
  have hu : unpP (packP n.p true).1 = (n.p, true, 0) := by rw [Ni.packP_yes h2]; exact Ni.unp_pack ho1 h2
  unfold pathP
  show (if (false = true) \/ (unpP (packP n.p true).1).2.2 ≠ 0 then none else if (unpP (packP n.p true).1).2.1 = true then (if false = true then none else some (⟨1, (unpP (packP n.p true).1).1, n.v, r0, []⟩ : PN)) else _) = some n
  rw [hu, if_neg (by simp), if_pos rfl, if_neg (by simp)]
  have hc : n.c = r0 := by
   rcases Zdk h5 with c | c | c
   ·exact PR.ext c.1 c.2.1 c.2.2
   ·omega
   ·omega
  exact congrArg some (PN.ext hk.symm rfl rfl hc.symm h7.symm)
 ·have e : itemP n = .mk true [] [.mk false (packP n.p false).1 [], refItemP n.c] := by unfold itemP; rw [if_neg (by omega), if_neg (by omega)]
  rw [e]
  have hpl := Zl5 false h2
  obtain ⟨b1, b2, b3⟩ := Zhd ho3 h5
  obtain ⟨r1, r2⟩ := Zgb (ts := [.mk false (packP n.p false).1 [], refItemP n.c]) (fun t ht => by
   simp only [List.mem_cons, List.not_mem_nil, or_false] at ht
   rcases ht with rfl | rfl
   ·exact ⟨Zfa _ _, Zf7 _⟩
   ·exact Zwb ho3 h5) (by
   have a1 := Zg8 (bs := (packP n.p false).1) (by omega)
   rw [Za7, Za7, Za2, List.length_append, List.length_append, List.length_nil]; omega)
  refine ⟨r1, ?_, r2⟩
  unfold nodeOfP
  rw [if_pos (by rfl)]
  have hu : unpP (packP n.p false).1 = (n.p, false, 0) := by rw [Ni.packP_yes h3]; exact Ni.unp_pack ho1 h3
  unfold pathP
  show (if (false = true) \/ (unpP (packP n.p false).1).2.2 ≠ 0 then none else if (unpP (packP n.p false).1).2.1 = true then _ else match refOfP (refItemP n.c) with
   | none => none
   | some c => some (⟨2, (unpP (packP n.p false).1).1, [], c, []⟩ : PN)) = some n
  rw [hu, b1, if_neg (by simp), if_neg (by simp)]
  exact congrArg some (PN.ext hk.symm rfl h4.symm rfl h7.symm)
 ·have e : itemP n = .mk true [] (n.ks.map refItemP ++ [.mk false n.v []]) := by unfold itemP; rw [if_pos hk]
  rw [e]
  have hmk : ∀ t ∈ n.ks.map refItemP, ∃ r ∈ n.ks, refItemP r = t := fun t ht => List.mem_map.1 ht
  obtain ⟨r1, r2⟩ := Zgb (ts := n.ks.map refItemP ++ [.mk false n.v []]) (fun t ht => by
   rcases List.mem_append.1 ht with ht | ht
   ·obtain ⟨r, hr, rfl⟩ := hmk t ht
    exact Zwb (ho4 r hr) (h6 r hr)
   ·simp only [List.mem_cons, List.not_mem_nil, or_false] at ht
    subst ht
    exact ⟨Zfa _ _, Zf7 _⟩) (by
   have a1 := Zg8 (bs := n.v) (by omega)
   have a2 := Ztc (c := 36) (ts := n.ks.map refItemP) (fun t ht => by
    obtain ⟨r, hr, rfl⟩ := hmk t ht
    exact (Zhd (ho4 r hr) (h6 r hr)).2.2)
   rw [List.length_map, h5] at a2
   rw [Zcq, Za7, Za2, List.length_append, List.length_append, List.length_nil]; omega)
  refine ⟨r1, ?_, r2⟩
  unfold nodeOfP
  have hl17 : (n.ks.map refItemP ++ [T.mk false n.v []]).length = 17 := by simp [h5]
  rw [show (T.mk true [] (n.ks.map refItemP ++ [T.mk false n.v []])).its = n.ks.map refItemP ++ [T.mk false n.v []] from rfl, if_neg (by omega), if_pos hl17]
  have hl16 : (n.ks.map refItemP).length = 16 := by simp [h5]
  rw [List.take_append_of_le_length (by omega), List.take_of_length_le (by omega), List.getD, List.getElem?_append_right (by omega), hl16]
  unfold branchP
  rw [Zmf fun r hr => (Zhd (ho4 r hr) (h6 r hr)).1]
  show (if (false = true) then none else some (⟨3, [], n.v, r0, n.ks⟩ : PN)) = some n
  rw [if_neg (by simp)]
  have hc : n.c = r0 := by
   rcases Zdk h3 with c | c | c
   ·exact PR.ext c.1 c.2.1 c.2.2
   ·omega
   ·omega
  exact congrArg some (PN.ext hk.symm h1.symm rfl hc.symm rfl)
def NE (n : PN) : List Int := enc (itemP n)
theorem Zl8 {b : List Int} {n : PN} (hb : isB b) (h : ND b = some n) : NR n = true /\ NE n = b /\ decP b = .ok (itemP n) := by
 obtain ⟨t, hd', hn, hr⟩ := Zen hb h
 obtain ⟨e1, e2, e3⟩ := Zff hb hd'
 obtain ⟨l1, l2, l3⟩ := Zd3 hb hd' hn
 have he : itemP n = t := by
  obtain ⟨l, bs, its⟩ := t
  simp only [T.l, T.bs, T.its] at l1 l2 l3
  subst l1 l2
  have hbx : ∀ u ∈ its, isB (enc u) := fun u hu => Ztd hb hd' hu
  rcases Zgq (t := .mk true [] its) l3 hn with ⟨x, y, hit, hx, hxe, hc⟩ | ⟨ts, y, ks, hit, h16, hy, hk, hfs, rfl⟩
  ·simp only [T.its] at hit
   have hxb : isB x.bs := by
    have := hbx x (by rw [hit]; simp)
    intro z hz
    refine this z ?_
    rw [hx, Zcl, Za2, List.append_nil]
    split
    ·exact hz
    ·exact List.mem_append_right _ hz
   have hpu := Ni.pack_unp hxb hxe
   rcases hc with ⟨hlf, hy, rfl⟩ | ⟨hlf, c, hc, hf, rfl⟩
   ·unfold itemP
    rw [if_neg (by show ¬ (1 : Int) = 3; decide), if_pos rfl]
    rw [hlf] at hpu
    show T.mk true [] [.mk false (packP (unpP x.bs).1 true).1 [], .mk false y.bs []] = _
    rw [hpu, hit, <- hx, <- hy]
   ·unfold itemP
    rw [if_neg (by show ¬ (2 : Int) = 3; decide), if_neg (by show ¬ (2 : Int) = 1; decide)]
    rw [hlf] at hpu
    show T.mk true [] [.mk false (packP (unpP x.bs).1 false).1 [], refItemP c] = _
    rw [hpu, hit, <- hx, (Zhc hf hc).1]
  ·simp only [T.its] at hit
   unfold itemP
   rw [if_pos rfl]
   show T.mk true [] (ks.map refItemP ++ [.mk false y.bs []]) = _
   rw [Zmc hfs hk, hit, <- hy]
 refine ⟨hr, ?_, by rw [he]; exact hd'⟩
 unfold NE
 rw [he, e1]
theorem Z0c {n : PN} (ho : okN n) (h : NR n = true) (hb : isB (NE n)) : ND (NE n) = some n :=
 Z0d hb (Zk9 (Zc5 ho h).1) (Zc5 ho h).2.1 h
end Go.Proofs.YtdkpilgelgjieaaGreat
namespace Go.Proofs.YtdkpilgelgjieaaGreat
open Go.RowKit
section
variable {P : Program} {md : Region.Mode} {ops : Array Oper} {Q : Exit → Act → World → Prop} {S : World → Prop} {fuel : Nat} {listed : Array Bool} {a : Act} {w : World}
theorem Zaj (i d : Nat) (v : Value) {o : Oper} (ho : ops[i]? = some o) (hd : o.dst = some d) (hs : Region.noSelect ops = true) (hf : Region.free md ops listed i = true) (hr : (Region.ready md ops listed).contains i = true)
  (hQ : ∀ c a w, Q (.panic c) (a.put o.dst v) w -> Q (.panic c) a w) (hg : Region.wanted o (yielded ops a.tmps) = true) (hy : ∀ w, S w -> (execOp a.eval o).run P w = .ok (.value v) w) (hS : S w)
  (h : wpAnyH P md ops Q S fuel (listed.setIfInBounds i true) (a.put (some d) v) w) : wpAnyH P md ops Q S (fuel + 1) listed a w :=
 wpAnyH_take ho hs hf hr hQ (Or.inl ⟨hg, hy⟩) hS (hd ▸ h)
theorem Zbd (i d : Nat) (v : Value) {rs : List Nat} {w' : World} {o : Oper} (ho : ops[i]? = some o) (hd : o.dst = some d) (hg : Region.wanted o (yielded ops a.tmps) = true) (hrun : (execOp a.eval o).run P w = .ok (.value v) w') (hS : S w')
  (h : wpAnyH P md ops Q S fuel (listed.setIfInBounds i true) (a.put (some d) v) w') (hs : AllReadyH P md ops Q S fuel listed a w rs) : AllReadyH P md ops Q S fuel listed a w (i :: rs) :=
 AllReadyH.cons ho (fun K hK => by
  rw [if_pos hg]
  unfold Oper.wp
  rw [hrun, Oper.upon_value]
  exact hK _ _ hS (fun _ => hd ▸ h)) hs
theorem Zci (i d : Nat) {rs : List Nat} {o : Oper} (ho : ops[i]? = some o) (hd : o.dst = some d) (hg : Region.wanted o (yielded ops a.tmps) = true) (f : FuncId) (args : Array Value) (hrun : (execOp a.eval o).run P w = .ok (.enter f args) w)
  {R : Value -> World -> Prop} (hc : Calls P f args w fun e w' => ∃ v, e = .returned v /\ R v w') (hSS : ∀ v w', R v w' -> S w') (h : ∀ v w', R v w' -> wpAnyH P md ops Q S fuel (listed.setIfInBounds i true) (a.put (some d) v) w')
  (hs : AllReadyH P md ops Q S fuel listed a w rs) : AllReadyH P md ops Q S fuel listed a w (i :: rs) :=
 AllReadyH.cons ho (fun K hK => by
  rw [if_pos hg]
  unfold Oper.wp
  rw [hrun, Oper.upon_enter]
  refine hc.mono ?_
  rintro e w' ⟨v, rfl, hR⟩
  exact hK _ _ (hSS v w' hR) (fun _ => hd ▸ h v w' hR)) hs
end
section
variable {a : Act} {w : World}
theorem Zd1 {x : Operand} {p : Addr} {v : Value} {o : Oper} (ho : o.op = .load 32 x) (hx : a.eval x = .pointer (some p)) (hc : w.cell? p = some v) : (execOp a.eval o).run Tryz.prog w = .ok (.value v) w := by
 unfold execOp
 rw [ho]
 simp only [hx]
 go_simp
theorem Zbh {x : Operand} {p : Addr} {v : Value} {o : Oper} (ho : o.op = .load 92 x) (hx : a.eval x = .pointer (some p)) (hc : w.cell? p = some v) : (execOp a.eval o).run Tryz.prog w = .ok (.value v) w := by
 unfold execOp
 rw [ho]
 simp only [hx]
 go_simp
theorem Zog {x : Operand} {p : Addr} {v : Value} {o : Oper} (ho : o.op = .load 4 x) (hx : a.eval x = .pointer (some p)) (hc : w.cell? p = some v) : (execOp a.eval o).run Tryz.prog w = .ok (.value v) w := by
 unfold execOp
 rw [ho]
 simp only [hx]
 go_simp
theorem Zfm {x : Operand} {g off : Nat} {v0 v1 v2 : Value} {o : Oper} (ho : o.op = .load 94 x) (hx : a.eval x = .pointer (some ⟨g, off, none⟩)) (h0 : w.cell? ⟨g, off, none⟩ = some v0) (h1 : w.cell? ⟨g, off + 1, none⟩ = some v1) (h2 : w.cell? ⟨g, off + 2, none⟩ = some v2) : (execOp a.eval o).run Tryz.prog w = .ok (.value (.agg #[v0, v1, v2])) w := by
 unfold execOp
 rw [ho]
 simp only [hx]
 go_simp
theorem Zcz {x y : Operand} {g off j m c : Nat} {o : Oper} (ho : o.op = .indexAddr 92 x y) (hx : a.eval x = .slice (some ⟨g, off, none⟩) m c) (hy : a.eval y = .int .i64 j) (hj : j < m) : (execOp a.eval o).run Tryz.prog w = .ok (.value (.pointer (some ⟨g, off + j * 3, none⟩))) w := by
 have hji : (j : Int) < m := by omega
 unfold execOp
 rw [ho]
 simp only [hx, hy]
 go_simp
end
theorem below_go {w0 w w' : World} (h : Below w0.heap.size w0 w) (hb : Below w.heap.size w w') : Below w0.heap.size w0 w' := h.trans (hb.mono h.size)
theorem Zae {w w' : World} (hb : Below w.heap.size w w') {g o : Nat} {v : Value} (h : w.cell? ⟨g, o, none⟩ = some v) : w'.cell? ⟨g, o, none⟩ = some v := (hb.cell (p := ⟨g, o, none⟩) (block_lt_of_cell h)).trans h
theorem ag_nil (w : World) : Ag w none 0 0 [] := ⟨.inl ⟨rfl, rfl⟩, fun _ => ⟨rfl, rfl⟩, rfl, fun x hx => by cases hx⟩
structure B1 (g : Nat) (v : World) (y : V) : Prop where
 c0 : v.cell? ⟨g, 0, none⟩ = some (.bool y.l)
 c1 : v.cell? ⟨g, 1, none⟩ = some (.slice y.ba y.bn y.bc)
 c2 : v.cell? ⟨g, 2, none⟩ = some (.slice y.ia y.m y.ic)
theorem B1.go {g : Nat} {v v' : World} {y : V} (h : B1 g v y) (hb : Below v.heap.size v v') : B1 g v' y := ⟨Zae hb h.c0, Zae hb h.c1, Zae hb h.c2⟩
theorem Zcy (w : World) (y : V) : B1 w.heap.size (w.alloc (.cells #[.bool y.l, .slice y.ba y.bn y.bc, .slice y.ia y.m y.ic] 94)) y := by
 have h := heap_alloc_new w (.cells #[.bool y.l, .slice y.ba y.bn y.bc, .slice y.ia y.m y.ic] 94)
 exact ⟨by rw [cell_of_row _ _ _ _ _ _ h]; rfl, by rw [cell_of_row _ _ _ _ _ _ h]; rfl, by rw [cell_of_row _ _ _ _ _ _ h]; rfl⟩
theorem below_new (w : World) (o : Obj) : Below w.heap.size w (w.alloc o) := (Below.refl _ _).alloc (Nat.le_refl _) _
theorem B1.alloc {g : Nat} {v : World} {y : V} (h : B1 g v y) (o : Obj) : B1 g (v.alloc o) y := h.go (below_new v o)
theorem Zex {t : T} (h : (mP t).2 = 0) : encP t = (enc t, 0) := by unfold encP; rw [if_pos h]
theorem Zns {t : T} (h : (mP t).2 ≠ 0) : encP t = ([], (mP t).2) := by unfold encP; rw [if_neg h]
theorem Zwt {t : T} (h : (mP t).2 = 0) : (enc t).length <= 16777220 := Zj6 (Zi1 h).2.1
end Go.Proofs.YtdkpilgelgjieaaGreat

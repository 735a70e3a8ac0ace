/- What is written is read as it was; of an encoding no shorter piece is one: plain laws. -/
import Derived.Test.YtefhepcplempkaaGreatG09
import Derived.Test.YtefhepcplempkaaGreatG11
import Derived.Test.YtefhepcplempkaaGreatG01
set_option linter.unusedVariables false
namespace Go.Proofs.YtefhepcplempkaaGreat
theorem Zym (n : Nat) : val (be n) = n := by
 induction n using Nat.strongRecOn with
 | _ n ih =>
  by_cases h : n = 0
  ·subst h; rw [Zeo]; rfl
  ·rw [Zf4 (by omega), Zf8, ih _ (Nat.div_lt_self (by omega) (by decide))]
   omega
theorem Zz7 {n : Nat} (h : 0 < n) : be n ≠ [] := by rw [Zf4 h]; simp
theorem Zx7 (n : Nat) : 0 < n -> (be n).headD 0 ≠ 0 := by
 induction n using Nat.strongRecOn with
 | _ n ih =>
  intro h
  rw [Zf4 h]
  by_cases h0 : n / 256 = 0
  ·rw [h0, Zeo]
   show ((n % 256 : Nat) : Int) ≠ 0
   omega
  ·have h1 := ih (n / 256) (Nat.div_lt_self h (by decide)) (by omega)
   have h2 := Zz7 (n := n / 256) (by omega)
   cases hd : be (n / 256) with
   | nil => exact absurd hd h2
   | cons x r => rw [hd] at h1; exact h1
theorem Zua {a b : List Int} (h : a ≠ []) : (a ++ b).headD 0 = a.headD 0 := by
 cases a with
 | nil => exact absurd rfl h
 | cons x r => rfl
theorem Zt4 {n : Nat} (h : 55 < n) (h2 : n < 16777216) (r : List Int) : lenIn (be n ++ r) (nb n) = (n, 0) := by
 have h3 := Zg9 h2
 have e : (be n ++ r).take (nb n) = be n := by rw [<- Ziu, List.take_left]
 unfold lenIn
 rw [if_neg (by omega), if_neg (by rw [List.length_append, Ziu]; omega), e, Zym, Zua (Zz7 (by omega)), if_neg]
 rintro (h4 | h4)
 ·exact Zx7 n (by omega) h4
 ·omega
theorem Zne {base n : Nat} (hb : base = 128 \/ base = 192) (hn : n <= 63) (h : base = 128 -> n < 64) : nOf ((base + n : Nat) : Int) = n := by
 unfold nOf
 rcases hb with rfl | rfl
 ·split <;> omega
 ·split <;> omega
theorem Zvu {deep : Bool} {base : Nat} (hb : base = 128 \/ base = 192) (hdp : base = 192 -> deep = false) (body more : List Int) (hl : body.length <= 16777215) :
  hdr deep (hd base body.length ++ (body ++ more)) = .ok (hd base body.length).length ((hd base body.length).length + body.length) := by
 unfold hd
 by_cases h5 : body.length <= 55
 ·rw [if_pos h5]
  have hn := Zne (n := body.length) hb (by omega) (by omega)
  show hdr deep (((base + body.length : Nat) : Int) :: (body ++ more)) = _
  unfold hdr
  simp only
  rw [if_neg (by rintro ⟨h1, h2⟩; rcases hb with rfl | rfl; omega; rw [hdp rfl] at h2; cases h2), if_neg (by rcases hb with rfl | rfl <;> omega), hn, if_neg (by omega), if_neg (by simp only [List.length_cons, List.length_append]; omega)]
  rfl
 ·rw [if_neg h5]
  have h3 := Zg9 (n := body.length) (by omega)
  have h1 := Zzf (n := body.length) (by omega)
  have hn := Zne (n := 55 + nb body.length) hb (by omega) (by omega)
  rw [show base + (55 + nb body.length) = base + 55 + nb body.length from by omega] at hn
  show hdr deep (((base + 55 + nb body.length : Nat) : Int) :: (be body.length ++ (body ++ more))) = _
  unfold hdr
  simp only
  rw [if_neg (by rintro ⟨h1, h2⟩; rcases hb with rfl | rfl; omega; rw [hdp rfl] at h2; cases h2), if_neg (by rcases hb with rfl | rfl <;> omega), hn, if_pos (by omega), show 55 + nb body.length - 55 = nb body.length from by omega, Zt4 (by omega) (by omega)]
  simp only
  rw [if_neg (by simp), if_neg (by simp only [List.length_cons, List.length_append, Ziu]; omega)]
  simp only [List.length_cons, Ziu]
  congr 1 <;> omega
theorem Znn (base n : Nat) : 1 <= (hd base n).length := by rw [hd_len]; omega
theorem Zjp (t : T) : 1 <= (enc t).length := by
 obtain ⟨l, bs, its⟩ := t
 rw [Zcc]
 split
 ·rename_i h
  unfold bare at h
  simp only [Bool.and_eq_true, decide_eq_true_eq] at h
  have := h.2.1
  omega
 ·rw [List.length_append]
  have := Znn (baseOf l) (bs ++ encs its).length
  omega
theorem Zcq (t : T) : (bodyOf t).length <= (enc t).length := by
 obtain ⟨l, bs, its⟩ := t
 show (bs ++ encs its).length <= _
 rw [Zcc]
 split
 ·exact Nat.le_refl _
 ·exact Nat.le_trans (Nat.le_add_left _ _) (Nat.le_of_eq List.length_append.symm)
theorem Znu (h body more : List Int) : ((h ++ (body ++ more)).take (h.length + body.length)).drop h.length = body := by
 rw [<- List.append_assoc, List.take_left' (by rw [List.length_append]), List.drop_left]
theorem Zrq {base : Nat} (hb : base = 128 \/ base = 192) {n : Nat} (hn : n < 16777216) (r : List Int) : (hd base n ++ r).headD 0 < 192 ↔ base = 128 := by
 have h3 := Zg9 hn
 unfold hd
 split
 ·show ((base + n : Nat) : Int) < 192 ↔ _
  rcases hb with rfl | rfl <;> omega
 ·show ((base + 55 + nb n : Nat) : Int) < 192 ↔ _
  rcases hb with rfl | rfl <;> omega
theorem Zm0 (g : List Int -> R) (deep : Bool) (bs more : List Int) (hl : bs.length <= 16777215) : rd1 g deep (enc (.mk false bs []) ++ more) = .ok (.mk false bs []) (enc (.mk false bs [])).length := by
 rw [Zcc, Za9, List.append_nil]
 by_cases hb : bare false bs = true
 ·rw [if_pos hb]
  unfold bare at hb
  simp only [Bool.not_false, Bool.true_and, Bool.and_eq_true, decide_eq_true_eq] at hb
  match bs, hb with
  | [x], ⟨_, h2⟩ =>
   have h2' : x < 128 := h2
   show rd1 g deep (x :: more) = _
   have e : hdr deep (x :: more) = .ok 0 1 := by
    unfold hdr
    simp only
    rw [if_neg (by omega), if_pos h2']
   unfold rd1
   rw [e]
   simp only
   rw [if_pos (show (x :: more).headD 0 < 192 by show x < 192; omega), if_neg (by simp)]
   rfl
 ·rw [if_neg hb, baseOf, if_neg (by simp), List.append_assoc]
  have e := Zvu (deep := deep) (base := 128) (.inl rfl) (fun h => by cases h) bs more hl
  unfold rd1
  rw [e]
  simp only
  have hh : (hd 128 bs.length ++ (bs ++ more)).headD 0 < 192 := (Zrq (base := 128) (Or.inl rfl) (n := bs.length) (by omega) (bs ++ more)).2 rfl
  rw [if_pos hh, Znu, List.length_append, if_neg]
  rintro ⟨h1, h2, h3⟩
  apply hb
  have hn1 : bs.length = 1 := by omega
  have h5 : hd 128 bs.length = [((128 + bs.length : Nat) : Int)] := by unfold hd; rw [if_pos (by omega)]
  rw [h5] at h3
  clear hh e
  obtain ⟨x, rfl⟩ := List.length_eq_one_iff.1 hn1
  have h3' : x < 128 := h3
  unfold bare
  simp [h3']
theorem Zih {g : List Int -> R} : ∀ (its : List T) (fuel : Nat), (encs its).length <= fuel -> (∀ t ∈ its, ∀ more, g (enc t ++ more) = .ok t (enc t).length) -> rdAll g fuel (encs its) = .ok its
 | [], fuel, _, _ => by rw [Za9, Zc1]
 | t :: r, fuel, hl, h => by
  rw [Zba] at hl ⊢
  have h1 := Zjp t
  rw [List.length_append] at hl
  obtain ⟨f, rfl⟩ : ∃ f, fuel = f + 1 := ⟨fuel - 1, by omega⟩
  have hne : enc t ++ encs r ≠ [] := by
   intro e
   have := congrArg List.length e
   rw [List.length_append, List.length_nil] at this
   omega
  rw [Zd5 hne (h t (List.mem_cons_self ..) _), List.drop_left, Zih r f (by omega) (fun u hu => h u (List.mem_cons_of_mem _ hu))]
theorem Zdj : ∀ {its : List T} {t : T}, t ∈ its -> (enc t).length <= (encs its).length
 | x :: r, t, ht => by
  rw [Zba, List.length_append]
  rcases List.mem_cons.1 ht with rfl | ht
  ·omega
  ·have := Zdj ht
   omega
theorem Zyz : ∀ t, ∀ k d w more, d + k = 8 -> (wk t d w).2 = 0 -> (bodyOf t).length <= 16777215 -> rd k (enc t ++ more) = .ok t (enc t).length := by
 refine T.ind fun l bs its ih k d w more hdk h hl => ?_
 obtain ⟨h1, h2, h3, h4⟩ := Zs3 h
 have hw := Zc8 h2
 cases l with
 | false =>
  have hi : its = [] := by simpa using hw
  subst hi
  have hl2 : bs.length <= 16777215 := by
   have : (bs ++ encs []).length <= 16777215 := hl
   rwa [Za9, List.append_nil] at this
  cases k with
  | zero => exact Zm0 _ _ _ _ hl2
  | succ k => exact Zm0 _ _ _ _ hl2
 | true =>
  have hbs : bs = [] := by simpa using hw
  subst hbs
  have hd8 := h1 rfl
  obtain ⟨k, rfl⟩ : ∃ k', k = k' + 1 := ⟨k - 1, by omega⟩
  have hl2 : (encs its).length <= 16777215 := by
   have : (([] : List Int) ++ encs its).length <= 16777215 := hl
   rwa [List.nil_append] at this
  rw [h4] at h
  have hall : ∀ t ∈ its, ∀ more, rd k (enc t ++ more) = .ok t (enc t).length := by
   intro t ht more
   obtain ⟨w', hw'⟩ := Zln h t ht
   have a1 := Zcq t
   have a2 := Zdj ht
   exact ih t ht k (d + 1) w' more (by omega) hw' (by omega)
  rw [Zcc, List.nil_append, if_neg (by simp [bare]), baseOf, if_pos rfl, List.append_assoc]
  have e := Zvu (deep := false) (base := 192) (.inr rfl) (fun _ => rfl) (encs its) more hl2
  show rd1 (rd k) false _ = _
  unfold rd1
  rw [e]
  simp only
  have hh : ¬ (hd 192 (encs its).length ++ (encs its ++ more)).headD 0 < 192 := fun h => by
   have := (Zrq (base := 192) (Or.inr rfl) (n := (encs its).length) (by omega) (encs its ++ more)).1 h
   omega
  rw [if_neg hh, Znu, Zih its _ (Nat.le_refl _) hall, List.length_append]
theorem Zzt {t : T} (h : (mP t).2 = 0) (more : List Int) : rd 8 (enc t ++ more) = .ok t (enc t).length := by
 obtain ⟨h1, h2, _⟩ := Zzk h
 have hf := Zpk t 0 0 h1
 exact Zyz t 8 0 0 more rfl h1 (by rw [<- Ziz hf]; omega)
theorem Zhk {t : T} (h : (mP t).2 = 0) : decP (enc t) = .ok t := by
 have := Zzt h []
 rw [List.append_nil] at this
 unfold decP
 rw [this]
 simp only
 rw [if_neg (by omega)]
def Deep (d : Nat) (t : T) : Prop := ∀ w, w + (enc t).length <= 16777215 -> ((wk t d w).2 = 0 /\ (wk t d w).1 <= w + (enc t).length) \/ (wk t d w).2 = 21
theorem Zue {base n : Nat} (h : n < 16777216) : (hd base n).length <= 4 := by
 rw [hd_len]
 have := Zg9 h
 split <;> omega
end Go.Proofs.YtefhepcplempkaaGreat
namespace Go.Proofs.YtefhepcplempkaaGreat
open Ni (unpP packP rightP)
structure PR where
 k : Int
 d : List Int
 i : List Int
structure PN where
 k : Int
 p : List Int
 v : List Int
 c : PR
 ks : List PR
def z32 : List Int := List.replicate 32 0
def r0 : PR := ⟨0, z32, []⟩
def n0 : PN := ⟨0, [], [], r0, []⟩
def t0 : T := .mk false [] []
def refOfP (t : T) : Option PR :=
 if t.l = true then (if (mP t).2 = 0 then some ⟨1, z32, enc t⟩ else none)
 else if t.bs.length = 0 then some r0
 else if t.bs.length = 32 then some ⟨2, t.bs, []⟩ else none
def pathP (x y : T) : Option PN :=
 if x.l = true \/ (unpP x.bs).2.2 ≠ 0 then none
 else if (unpP x.bs).2.1 = true then (if y.l = true then none else some ⟨1, (unpP x.bs).1, y.bs, r0, []⟩)
 else match refOfP y with
  | none => none
  | some c => some ⟨2, (unpP x.bs).1, [], c, []⟩
def kidsP : List T -> Option (List PR)
 | [] => some []
 | t :: r => match refOfP t with
  | none => none
  | some a => match kidsP r with
   | none => none
   | some l => some (a :: l)
def branchP (ts : List T) (y : T) : Option PN := match kidsP ts with
 | none => none
 | some ks => if y.l = true then none else some ⟨3, [], y.bs, r0, ks⟩
def nodeOfP (t : T) : Option PN :=
 if t.its.length = 2 then pathP (t.its.getD 0 t0) (t.its.getD 1 t0)
 else if t.its.length = 17 then branchP (t.its.take 16) (t.its.getD 16 t0) else none
def kd (o : Option PN) : Int := match o with
 | none => 0
 | some n => n.k
def rrefP (dk : List Int -> Int) (r : PR) : Bool :=
 if r.k = 0 then decide (r.d = z32) && decide (r.i.length = 0)
 else if r.k = 2 then decide (r.i.length = 0)
 else if r.k = 1 then decide (r.d = z32) && decide (r.i.length < 32) && decide (dk r.i ≠ 0)
 else false
def rpathP (n : PN) : Bool :=
 if n.k = 2 then (if n.p.length = 0 then false else decide (n.p.length <= 64) && rightP n.p)
 else if n.k = 1 then decide (n.p.length <= 64) && rightP n.p
 else decide (n.p.length = 0)
def rvalueP (n : PN) : Bool :=
 if n.k = 1 then (if n.v.length = 0 then false else decide (n.v.length <= 256))
 else if n.k = 3 then decide (n.v.length <= 256)
 else decide (n.v.length = 0)
def rchildP (dk : List Int -> Int) (n : PN) : Bool :=
 if rrefP dk n.c = false then false
 else if n.k ≠ 2 then decide (n.c.k = 0)
 else decide (n.c.k = 2) || decide (dk n.c.i = 3)
def ways : List PR -> Nat
 | [] => 0
 | r :: l => (if r.k ≠ 0 then 1 else 0) + ways l
def rkidsP (dk : List Int -> Int) (n : PN) : Bool :=
 if n.k ≠ 3 then decide (n.ks.length = 0)
 else if n.ks.length ≠ 16 then false
 else n.ks.all (rrefP dk) && decide (2 <= (if 0 < n.v.length then 1 else 0) + ways n.ks)
def knownP (n : PN) : Bool := decide (n.k = 1) || decide (n.k = 2) || decide (n.k = 3)
def nright (dk : List Int -> Int) (n : PN) : Bool := knownP n && rpathP n && rvalueP n && rchildP dk n && rkidsP dk n
def ndec : Nat -> List Int -> Option PN
 | 0, _ => none
 | f + 1, b => match decP b with
  | .bad _ => none
  | .ok t => match nodeOfP t with
   | none => none
   | some n => if nright (fun i => kd (ndec f i)) n = true then some n else none
def ND (b : List Int) : Option PN := ndec 33 b
def KD (b : List Int) : Int := kd (ND b)
def NR (n : PN) : Bool := nright KD n
def refItemP (r : PR) : T :=
 if r.k = 1 then (match decP r.i with | .ok t => t | .bad _ => t0)
 else if r.k = 2 then .mk false r.d [] else t0
def itemP (n : PN) : T :=
 if n.k = 3 then .mk true [] (n.ks.map refItemP ++ [.mk false n.v []])
 else if n.k = 1 then .mk true [] [.mk false (packP n.p true).1 [], .mk false n.v []]
 else .mk true [] [.mk false (packP n.p false).1 [], refItemP n.c]
def isB (b : List Int) : Prop := ∀ x ∈ b, 0 <= x /\ x < 256
def okR (r : PR) : Prop := isB r.d /\ r.d.length = 32 /\ isB r.i
def okN (n : PN) : Prop := isB n.p /\ isB n.v /\ okR n.c /\ ∀ r ∈ n.ks, okR r

theorem Zic {dk dk' : List Int -> Int} {r : PR} (h : r.i.length < 32 -> dk r.i = dk' r.i) : rrefP dk r = rrefP dk' r := by
 unfold rrefP
 by_cases h32 : r.i.length < 32
 ·rw [h h32]
 ·simp [h32]
theorem Zib {dk : List Int -> Int} {r : PR} (h : rrefP dk r = true) : r.i.length < 32 := by
 unfold rrefP at h
 by_cases h0 : r.k = 0
 ·simp [h0] at h; rw [h.2]; decide
 ·by_cases h2 : r.k = 2
  ·simp [h2] at h; rw [h]; decide
  ·by_cases h1 : r.k = 1
   ·simp [h1] at h; omega
   ·simp [h0, h1, h2] at h
theorem Zlg {dk dk' : List Int -> Int} : ∀ {ks : List PR}, (∀ r ∈ ks, r.i.length < 32 -> dk r.i = dk' r.i) -> ks.all (rrefP dk) = ks.all (rrefP dk')
 | [], _ => rfl
 | r :: l, h => by
  rw [List.all_cons, List.all_cons, Zic (h r (by simp)), Zlg fun x hx => h x (List.mem_cons_of_mem _ hx)]
theorem Zfv {dk dk' : List Int -> Int} {n : PN} (hc : n.c.i.length < 32 -> dk n.c.i = dk' n.c.i) (hk : ∀ r ∈ n.ks, r.i.length < 32 -> dk r.i = dk' r.i) : nright dk n = nright dk' n := by
 unfold nright rchildP rkidsP
 rw [Zlg hk, Zic hc]
 by_cases h : rrefP dk' n.c = false
 ·simp [h]
 ·rw [hc (Zib (by simpa using h))]
theorem Zho {b : List Int} {t : T} (hb : isB b) (h : decP b = .ok t) : enc t = b /\ (mP t).2 = 0 /\ form t = true := by
 have hr : rd 8 b = .ok t b.length := by
  unfold decP at h
  cases hq : rd 8 b with
  | bad e => rw [hq] at h; cases h
  | ok t' n =>
   rw [hq] at h
   dsimp only at h
   have := rd_n hq
   by_cases hn : n < b.length
   ·rw [if_pos hn] at h; cases h
   ·rw [if_neg hn] at h
    cases h
    rw [show n = b.length from by omega]
 obtain ⟨h1, h2⟩ := Zxz hb hr
 refine ⟨?_, h2, (Zhl h2).2.2⟩
 unfold encP at h1
 rw [if_pos h2] at h1
 exact congrArg Prod.fst h1
theorem Zhf {t : T} (hf : form t = true) (h : 0 < t.its.length) : t.l = true /\ t.bs = [] /\ forms t.its = true := by
 obtain ⟨l, bs, its⟩ := t
 cases l with
 | false => rw [Zc6 hf] at h; exact absurd h (by simp [T.its])
 | true => exact ⟨rfl, Ze2 hf⟩
theorem encL {t : T} (h : t.l = true) (hb : t.bs = []) : enc t = hd 192 (encs t.its).length ++ encs t.its := by
 obtain ⟨l, bs, its⟩ := t
 simp only [T.l, T.bs] at h hb
 subst h hb
 rw [Zcc, List.nil_append, if_neg (by simp [bare]), baseOf, if_pos rfl]
 rfl
theorem Zhj {l : List T} {i : Nat} (h : i < l.length) : l.getD i t0 ∈ l := by
 rw [List.getD, List.getElem?_eq_getElem h]
 exact List.getElem_mem h
theorem Zf1 : ∀ {its : List T} {t : T}, t ∈ its -> ∀ x ∈ enc t, x ∈ encs its
 | y :: r, t, ht, x, hx => by
  rw [Zba]
  rcases List.mem_cons.1 ht with rfl | ht
  ·exact List.mem_append_left _ hx
  ·exact List.mem_append_right _ (Zf1 ht x hx)
theorem Zlq {b : List Int} {t u : T} (hb : isB b) (h : decP b = .ok t) (hu : u ∈ t.its) : (enc u).length < b.length /\ ∀ x ∈ enc u, x ∈ b := by
 obtain ⟨h1, h2, h3⟩ := Zho hb h
 obtain ⟨l1, l2, l3⟩ := Zhf h3 (List.length_pos_of_mem hu)
 rw [encL l1 l2] at h1
 have := Zdj hu
 have := Znn 192 (encs t.its).length
 rw [<- h1]
 refine ⟨by rw [List.length_append]; omega, fun x hx => List.mem_append_right _ (Zf1 hu x hx)⟩
theorem Zwu {u : T} {r : PR} (h : refOfP u = some r) : r.i = enc u \/ r.i = [] := by
 unfold refOfP at h
 by_cases hl : u.l = true
 ·rw [if_pos hl] at h
  by_cases hm : (mP u).2 = 0
  ·rw [if_pos hm] at h; cases h; exact .inl rfl
  ·rw [if_neg hm] at h; cases h
 ·rw [if_neg hl] at h
  by_cases h0 : u.bs.length = 0
  ·rw [if_pos h0] at h; cases h; exact .inr rfl
  ·rw [if_neg h0] at h
   by_cases h32 : u.bs.length = 32
   ·rw [if_pos h32] at h; cases h; exact .inr rfl
   ·rw [if_neg h32] at h; cases h
theorem Znk : ∀ {ts : List T} {ks : List PR}, kidsP ts = some ks -> ks.length = ts.length /\ ∀ r ∈ ks, ∃ u ∈ ts, refOfP u = some r
 | [], ks, h => by cases h; exact ⟨rfl, fun r hr => by cases hr⟩
 | t :: l, ks, h => by
  rw [kidsP] at h
  cases hr : refOfP t with
  | none => rw [hr] at h; cases h
  | some a =>
   rw [hr] at h
   dsimp only at h
   cases hk : kidsP l with
   | none => rw [hk] at h; cases h
   | some l' =>
    rw [hk] at h
    cases h
    obtain ⟨h1, h2⟩ := Znk hk
    refine ⟨by simp [h1], fun r hr' => ?_⟩
    rcases List.mem_cons.1 hr' with rfl | hr'
    ·exact ⟨t, by simp, hr⟩
    ·obtain ⟨u, hu, e⟩ := h2 r hr'
     exact ⟨u, by simp [hu], e⟩
theorem Zg6 {t : T} {n : PN} (h : nodeOfP t = some n) : 0 < t.its.length /\ ∀ r, (r = n.c \/ r ∈ n.ks) -> r.i = [] \/ ∃ u ∈ t.its, refOfP u = some r := by
 unfold nodeOfP at h
 by_cases h2 : t.its.length = 2
 ·rw [if_pos h2] at h
  refine ⟨by omega, ?_⟩
  unfold pathP at h
  split at h
  ·cases h
  ·split at h
   ·split at h
    ·cases h
    ·cases h
     intro r hr
     rcases hr with rfl | hr
     ·exact .inl rfl
     ·cases hr
   ·cases hq : refOfP (t.its.getD 1 t0) with
    | none => rw [hq] at h; cases h
    | some c =>
     rw [hq] at h
     cases h
     intro r hr
     rcases hr with rfl | hr
     ·exact .inr ⟨_, Zhj (by omega), hq⟩
     ·cases hr
 ·rw [if_neg h2] at h
  by_cases h17 : t.its.length = 17
  ·rw [if_pos h17] at h
   refine ⟨by omega, ?_⟩
   unfold branchP at h
   cases hk : kidsP (t.its.take 16) with
   | none => rw [hk] at h; cases h
   | some ks =>
    rw [hk] at h
    dsimp only at h
    split at h
    ·cases h
    ·cases h
     intro r hr
     rcases hr with rfl | hr
     ·exact .inl rfl
     ·obtain ⟨u, hu, e⟩ := (Znk hk).2 r hr
      exact .inr ⟨u, List.mem_of_mem_take hu, e⟩
  ·rw [if_neg h17] at h; cases h
theorem Zjg {b : List Int} {t : T} {n : PN} (hb : isB b) (h : decP b = .ok t) (hn : nodeOfP t = some n) : ∀ r, (r = n.c \/ r ∈ n.ks) -> r.i.length < b.length /\ isB r.i := by
 obtain ⟨h0, hr⟩ := Zg6 hn
 have hu0 := (Zlq hb h (Zhj h0)).1
 intro r hrr
 rcases hr r hrr with e | ⟨u, hu, e⟩
 ·rw [e]; exact ⟨by simp; omega, fun x hx => by cases hx⟩
 ·obtain ⟨s1, s2⟩ := Zlq hb h hu
  rcases Zwu e with e | e
  ·rw [e]; exact ⟨s1, fun x hx => hb x (s2 x hx)⟩
  ·rw [e]; exact ⟨by simp; omega, fun x hx => by cases hx⟩
theorem Zqz : ∀ (L : Nat) (b : List Int), b.length <= L -> isB b -> ∀ f f', b.length < f -> b.length < f' -> ndec f b = ndec f' b := by
 intro L
 induction L using Nat.strongRecOn with
 | _ L ih =>
  intro b hL hb f f' hf hf'
  obtain ⟨g, rfl⟩ : ∃ g, f = g + 1 := ⟨f - 1, by omega⟩
  obtain ⟨g', rfl⟩ : ∃ g', f' = g' + 1 := ⟨f' - 1, by omega⟩
  rw [ndec, ndec]
  cases hd : decP b with
  | bad e => rfl
  | ok t =>
   dsimp only
   cases hn : nodeOfP t with
   | none => rfl
   | some n =>
    dsimp only
    have hs := Zjg hb hd hn
    have hcg : ∀ r, (r = n.c \/ r ∈ n.ks) -> ndec g r.i = ndec g' r.i := fun r hr => by
     obtain ⟨s1, s2⟩ := hs r hr
     exact ih r.i.length (by omega) r.i (Nat.le_refl _) s2 g g' (by omega) (by omega)
    rw [Zfv (dk := fun i => kd (ndec g i)) (dk' := fun i => kd (ndec g' i)) (fun _ => by rw [hcg _ (.inl rfl)]) (fun r hr _ => by rw [hcg _ (.inr hr)])]
theorem Zye {b : List Int} (hb : isB b) : ND b = match decP b with
  | .bad _ => none
  | .ok t => match nodeOfP t with
   | none => none
   | some n => if NR n = true then some n else none := by
 show ndec (32 + 1) b = _
 rw [ndec]
 cases hd : decP b with
 | bad e => rfl
 | ok t =>
  dsimp only
  cases hn : nodeOfP t with
  | none => rfl
  | some n =>
   dsimp only
   have hs := Zjg hb hd hn
   have hcg : ∀ r, (r = n.c \/ r ∈ n.ks) -> r.i.length < 32 -> ndec 32 r.i = ND r.i := fun r hr h32 => by
    obtain ⟨s1, s2⟩ := hs r hr
    exact Zqz r.i.length r.i (Nat.le_refl _) s2 32 33 (by omega) (by omega)
   rw [Zfv (dk := fun i => kd (ndec 32 i)) (dk' := KD) (fun h => by unfold KD; rw [hcg _ (.inl rfl) h]) (fun r hr h => by unfold KD; rw [hcg _ (.inr hr) h])]
   rfl
theorem Zhw {b : List Int} {n : PN} (hb : isB b) (h : ND b = some n) : ∃ t, decP b = .ok t /\ nodeOfP t = some n /\ NR n = true := by
 rw [Zye hb] at h
 cases hd : decP b with
 | bad e => rw [hd] at h; cases h
 | ok t =>
  rw [hd] at h
  dsimp only at h
  cases hn : nodeOfP t with
  | none => rw [hn] at h; cases h
  | some m =>
   rw [hn] at h
   dsimp only at h
   by_cases hr : NR m = true
   ·rw [if_pos hr] at h; cases h; exact ⟨t, rfl, hn, hr⟩
   ·rw [if_neg hr] at h; cases h
theorem Z0c {b : List Int} {t : T} {n : PN} (hb : isB b) (hd : decP b = .ok t) (hn : nodeOfP t = some n) (hr : NR n = true) : ND b = some n := by
 rw [Zye hb, hd]
 dsimp only
 rw [hn]
 dsimp only
 rw [if_pos hr]
theorem Zsu {n : PN} (h : NR n = true) : n.k = 1 \/ n.k = 2 \/ n.k = 3 := by
 unfold NR nright knownP at h
 simp only [Bool.and_eq_true, Bool.or_eq_true, decide_eq_true_eq] at h
 omega
theorem Zj1 {b : List Int} (h : KD b ≠ 0) : ∃ n, ND b = some n /\ n.k = KD b := by
 unfold KD at h ⊢
 cases hq : ND b with
 | none => rw [hq] at h; exact absurd rfl h
 | some n => exact ⟨n, rfl, rfl⟩
def Ok (D : Nat) (t : T) : Prop := ∀ d w, d <= D -> w + (enc t).length <= 16777215 -> (wk t d w).2 = 0 /\ (wk t d w).1 <= w + (enc t).length
theorem Ok.mono {D E : Nat} {t : T} (h : Ok D t) (he : E <= D) : Ok E t := fun d w hd hw => h d w (by omega) hw
theorem Zlb (bs : List Int) : max bs.length 1 <= (enc (.mk false bs [])).length := by
 have h1 := Zjp (.mk false bs [])
 have h2 := Zcq (.mk false bs [])
 rw [show bodyOf (.mk false bs []) = bs from by rw [bodyOf, T.bs, T.its, Za9, List.append_nil]] at h2
 omega
theorem Zeg (D : Nat) (bs : List Int) : Ok D (.mk false bs []) := fun d w hd hw => by
 have hl := Zlb bs
 have hwt : wt false bs d = max bs.length 1 := by unfold wt; simp
 rw [Zj6, if_neg (by simp), if_neg (by simp [wrongForm]), hwt, if_neg (by omega), Zcx]
 exact ⟨rfl, by dsimp only; omega⟩
theorem Zu7 {D : Nat} : ∀ {ts : List T}, (∀ t ∈ ts, Ok D t) -> ∀ d w, d <= D -> w + (encs ts).length <= 16777215 -> (wks ts d w).2 = 0 /\ (wks ts d w).1 <= w + (encs ts).length
 | [], _, d, w, _, _ => by rw [Zcx]; exact ⟨rfl, by simp⟩
 | t :: r, h, d, w, hd, hw => by
  rw [Zba, List.length_append] at hw ⊢
  obtain ⟨h1, h2⟩ := h t (by simp) d w hd (by omega)
  rw [Zcr, if_pos h1]
  obtain ⟨h3, h4⟩ := Zu7 (fun u hu => h u (List.mem_cons_of_mem _ hu)) d (wk t d w).1 hd (by omega)
  exact ⟨h3, by omega⟩
theorem Zqn {D : Nat} (hD : D <= 7) {ts : List T} (h : ∀ t ∈ ts, Ok (D + 1) t) : Ok D (.mk true [] ts) := fun d w hdd hw => by
 have he : (enc (.mk true [] ts)).length = (hd 192 (encs ts).length).length + (encs ts).length := by rw [encL (t := .mk true [] ts) rfl rfl, List.length_append]; rfl
 have hp := Znn 192 (encs ts).length
 have hwt : wt true [] d <= 1 := by unfold wt; split <;> simp
 rw [Zj6, if_neg (by simp; omega), if_neg (by simp [wrongForm]), if_neg (by omega)]
 obtain ⟨h1, h2⟩ := Zu7 h (d + 1) (w + wt true [] d) (by omega) (by omega)
 exact ⟨h1, by omega⟩
theorem Zzb {D : Nat} {t : T} (h : Ok D t) (hf : form t = true) (hl : (enc t).length <= 16777215) : (mP t).2 = 0 := by
 have h0 := (h 0 0 (by omega) (by omega)).1
 have hb := Zcq t
 unfold mP
 rw [if_neg (by rw [h0]; simp), if_neg (by rw [Ziz hf]; omega)]
theorem Zq6 {bs : List Int} (h : bs.length <= 65536) : (mP (.mk false bs [])).2 = 0 := by
 refine Zzb (Zeg 0 bs) (by rw [Zdx]; simp [Zcp]) ?_
 rw [Zcc, Za9, List.append_nil]
 have := Zue (base := baseOf false) (n := bs.length) (by omega)
 split
 ·omega
 ·rw [List.length_append]; omega
theorem Zcz {dk : List Int -> Int} {r : PR} (h : rrefP dk r = true) : (r.k = 0 /\ r.d = z32 /\ r.i = []) \/ (r.k = 2 /\ r.i = []) \/ (r.k = 1 /\ r.d = z32 /\ r.i.length < 32 /\ dk r.i ≠ 0) := by
 unfold rrefP at h
 by_cases h0 : r.k = 0
 ·simp [h0] at h; exact .inl ⟨h0, h.1, h.2⟩
 ·by_cases h2 : r.k = 2
  ·simp [h2] at h; exact .inr (.inl ⟨h2, h⟩)
  ·by_cases h1 : r.k = 1
   ·simp [h1] at h; exact .inr (.inr ⟨h1, h.1.1, h.1.2, h.2⟩)
   ·simp [h0, h1, h2] at h
theorem Zei {b : List Int} {t : T} {n : PN} (hb : isB b) (hd : decP b = .ok t) (hn : nodeOfP t = some n) : t.l = true /\ t.bs = [] /\ forms t.its = true := Zhf (Zho hb hd).2.2 (Zg6 hn).1
theorem PR.ext {a b : PR} (h1 : a.k = b.k) (h2 : a.d = b.d) (h3 : a.i = b.i) : a = b := by cases a; cases b; simp_all
theorem PN.ext {a b : PN} (h1 : a.k = b.k) (h2 : a.p = b.p) (h3 : a.v = b.v) (h4 : a.c = b.c) (h5 : a.ks = b.ks) : a = b := by cases a; cases b; simp_all
theorem Zgd {r : PR} (ho : okR r) (h : rrefP KD r = true) : refOfP (refItemP r) = some r /\ (mP (refItemP r)).2 = 0 /\ (enc (refItemP r)).length <= 36 := by
 rcases Zcz h with ⟨h1, h2, h3⟩ | ⟨h1, h2⟩ | ⟨h1, h2, h3, h4⟩
 ·have e : refItemP r = t0 := by unfold refItemP; rw [if_neg (by omega), if_neg (by omega)]
  rw [e]
  refine ⟨?_, Zq6 (by simp), by decide +kernel⟩
  unfold refOfP
  rw [if_neg (by simp [t0, T.l]), if_pos (by rfl)]
  exact congrArg some (PR.ext h1.symm h2.symm h3.symm)
 ·have e : refItemP r = .mk false r.d [] := by unfold refItemP; rw [if_neg (by omega), if_pos h1]
  rw [e]
  have hl := ho.2.1
  refine ⟨?_, Zq6 (by omega), ?_⟩
  ·unfold refOfP
   rw [if_neg (by simp [T.l]), if_neg (by show ¬ r.d.length = 0; omega), if_pos (by exact hl)]
   exact congrArg some (PR.ext h1.symm rfl h2.symm)
  ·rw [Zcc, Za9, List.append_nil]
   have := Zue (base := baseOf false) (n := r.d.length) (by omega)
   split
   ·omega
   ·rw [List.length_append]; omega
 ·obtain ⟨m, hm, _⟩ := Zj1 h4
  obtain ⟨t, hd, hn, hr⟩ := Zhw ho.2.2 hm
  have e : refItemP r = t := by unfold refItemP; rw [if_pos h1, hd]
  rw [e]
  obtain ⟨e1, e2, e3⟩ := Zho ho.2.2 hd
  refine ⟨?_, e2, by rw [e1]; omega⟩
  unfold refOfP
  rw [if_pos (Zei ho.2.2 hd hn).1, if_pos e2, e1]
  exact congrArg some (PR.ext h1.symm h2.symm rfl)
theorem Zdn {u : T} (hf : form u = true) (h : ¬ u.l = true) : u = .mk false u.bs [] := by
 obtain ⟨l, bs, its⟩ := u
 have hl : l = false := by simpa [T.l] using h
 subst hl
 rw [Zc6 hf]
 rfl
theorem Zmx {u : T} {r : PR} (hf : form u = true) (h : refOfP u = some r) : refItemP r = u /\ (u.l = true -> (mP u).2 = 0 /\ r = ⟨1, z32, enc u⟩) /\ (¬ u.l = true -> r.k ≠ 1) := by
 unfold refOfP at h
 by_cases hl : u.l = true
 ·rw [if_pos hl] at h
  by_cases hm : (mP u).2 = 0
  ·rw [if_pos hm] at h
   cases h
   refine ⟨?_, fun _ => ⟨hm, rfl⟩, fun h => absurd hl h⟩
   unfold refItemP
   rw [if_pos rfl, Zhk hm]
  ·rw [if_neg hm] at h; cases h
 ·rw [if_neg hl] at h
  have ht := Zdn hf hl
  by_cases h0 : u.bs.length = 0
  ·rw [if_pos h0] at h
   cases h
   refine ⟨?_, fun h => absurd h hl, fun _ => by show (0 : Int) ≠ 1; decide⟩
   rw [ht, List.eq_nil_of_length_eq_zero h0]
   rfl
  ·rw [if_neg h0] at h
   by_cases h32 : u.bs.length = 32
   ·rw [if_pos h32] at h
    cases h
    refine ⟨?_, fun h => absurd h hl, fun _ => by show (2 : Int) ≠ 1; decide⟩
    rw [ht]
    rfl
   ·rw [if_neg h32] at h; cases h
theorem Zk3 : ∀ {ks : List PR}, (∀ r ∈ ks, refOfP (refItemP r) = some r) -> kidsP (ks.map refItemP) = some ks
 | [], _ => rfl
 | r :: l, h => by rw [List.map_cons, kidsP, h r (by simp), Zk3 fun x hx => h x (List.mem_cons_of_mem _ hx)]
theorem Zgm {n : PN} (h : NR n = true) : (n.k = 1 /\ n.p.length <= 64 /\ rightP n.p = true /\ 0 < n.v.length /\ n.v.length <= 256 /\ rrefP KD n.c = true /\ n.c.k = 0 /\ n.ks = []) ∨
  (n.k = 2 /\ 0 < n.p.length /\ n.p.length <= 64 /\ rightP n.p = true /\ n.v = [] /\ rrefP KD n.c = true /\ (n.c.k = 2 \/ KD n.c.i = 3) /\ n.ks = []) ∨
  (n.k = 3 /\ n.p = [] /\ n.v.length <= 256 /\ rrefP KD n.c = true /\ n.c.k = 0 /\ n.ks.length = 16 /\ (∀ r ∈ n.ks, rrefP KD r = true) /\ 2 <= (if 0 < n.v.length then 1 else 0) + ways n.ks) := by
 have hk := Zsu h
 unfold NR nright rpathP rvalueP rchildP rkidsP at h
 have hch : rrefP KD n.c = true := by
  cases hq : rrefP KD n.c with
  | true => rfl
  | false => rw [hq] at h; simp at h
 rcases hk with hk | hk | hk
 ·left
  simp [hk, hch] at h
  obtain ⟨⟨⟨⟨_, h1, h2⟩, h3, h4⟩, h5⟩, h6⟩ := h
  exact ⟨hk, h1, h2, List.length_pos_iff.2 h3, h4, hch, h5, h6⟩
 ·right; left
  simp [hk, hch] at h
  obtain ⟨⟨⟨⟨_, h1, h2, h3⟩, h4⟩, h5⟩, h6⟩ := h
  exact ⟨hk, List.length_pos_iff.2 h1, h2, h3, h4, hch, h5, h6⟩
 ·right; right
  simp [hk, hch] at h
  obtain ⟨⟨⟨⟨_, h1⟩, h2⟩, h3⟩, h4, h5, h6⟩ := h
  exact ⟨hk, h1, h2, hch, h3, h4, h5, by simpa using h6⟩
end Go.Proofs.YtefhepcplempkaaGreat

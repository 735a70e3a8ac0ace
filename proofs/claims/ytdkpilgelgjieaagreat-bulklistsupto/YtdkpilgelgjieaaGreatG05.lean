/- The trie's own functions. -/
import Derived.Test.YtdkpilgelgjieaaGreatG04
import Derived.Test.YtdkpilgelgjieaaGreatG00
set_option linter.unusedVariables false
set_option maxRecDepth 100000
namespace Go.Proofs.YtdkpilgelgjieaaGreat
open Go.RowKit
open Tr
structure Tri (K : Nat -> Prop) (w : World) (g : Nat) (t : Tr) : Prop where
 ex : ∃ v, Rw g w #[v] 72 /\ TA K w t v
 ok : t = no \/ Ok 64 t
theorem Z0g {w : World} {base : Nat} {a : Option Addr} {n : Nat} {bs : List Int} {K : Nat -> Prop} (h : Ni.Cut w base a n bs) (hK : ∀ b, base <= b -> K b) : Sk K w a n n bs :=
 ⟨h.ag, fun x hx hn => by obtain ⟨g, off, cur, e, hg, _⟩ := h.own hn; rw [e] at hx; cases hx; exact hK _ hg⟩
theorem Zwl {k : List Int} (h : ∀ x ∈ k, 0 <= x /\ x < 256) : Nb (Ni.nib k) := fun i hi => by have := Ni.nib_bd k h i hi; omega
end Go.Proofs.YtdkpilgelgjieaaGreat
namespace Go.Proofs.YtdkpilgelgjieaaGreat
inductive T where
 | mk (l : Bool) (bs : List Int) (its : List T)
instance : Inhabited T := ⟨.mk false [] []⟩
def T.l : T -> Bool | .mk l _ _ => l
def T.bs : T -> List Int | .mk _ bs _ => bs
def T.its : T -> List T | .mk _ _ its => its
def nb (n : Nat) : Nat := if h : n = 0 then 0 else 1 + nb (n / 256)
decreasing_by exact Nat.div_lt_self (Nat.pos_of_ne_zero h) (by decide)
def be (n : Nat) : List Int := if h : n = 0 then [] else be (n / 256) ++ [((n % 256 : Nat) : Int)]
decreasing_by exact Nat.div_lt_self (Nat.pos_of_ne_zero h) (by decide)
theorem Zga : nb 0 = 0 := by rw [nb]; rfl
theorem Zgs {n : Nat} (h : 0 < n) : nb n = 1 + nb (n / 256) := by rw [nb, dif_neg (by omega)]
theorem Zel : be 0 = [] := by rw [be]; rfl
theorem Zem {n : Nat} (h : 0 < n) : be n = be (n / 256) ++ [((n % 256 : Nat) : Int)] := by rw [be, dif_neg (by omega)]
theorem Zkc (n : Nat) : (be n).length = nb n := by
 induction n using Nat.strongRecOn with
 | _ n ih =>
  by_cases h : n = 0
  ·subst h; rw [Zel, Zga]; rfl
  ·rw [Zem (by omega), Zgs (by omega), List.length_append, ih _ (Nat.div_lt_self (by omega) (by decide))]
   simp [Nat.add_comm]
theorem Zos {n : Nat} (h0 : 0 < n) (h : n < 256) : nb n = 1 := by rw [Zgs h0, show n / 256 = 0 from by omega, Zga]
theorem Zor {n : Nat} (h0 : 256 <= n) (h : n < 65536) : nb n = 2 := by rw [Zgs (by omega), Zos (by omega) (by omega)]
theorem Zhh {n : Nat} (h0 : 65536 <= n) (h : n < 16777216) : nb n = 3 := by rw [Zgs (by omega), Zor (by omega) (by omega)]
theorem Zzi {n : Nat} (h : n < 4294967296) : nb n <= 4 := by
 by_cases h0 : n = 0
 ·subst h0; rw [Zga]; omega
 ·by_cases h1 : n < 256
  ·rw [Zos (by omega) h1]; omega
  ·by_cases h2 : n < 65536
   ·rw [Zor (by omega) h2]; omega
   ·by_cases h3 : n < 16777216
    ·rw [Zhh (by omega) h3]; omega
    ·rw [Zgs (by omega), Zhh (by omega) (by omega)]; omega
theorem Zfs {n : Nat} (h : n < 16777216) : nb n <= 3 := by
 by_cases h0 : n = 0
 ·subst h0; rw [Zga]; omega
 ·by_cases h1 : n < 256
  ·rw [Zos (by omega) h1]; omega
  ·by_cases h2 : n < 65536
   ·rw [Zor (by omega) h2]; omega
   ·rw [Zhh (by omega) h]; omega
theorem Zzj {n : Nat} (h : 0 < n) : 1 <= nb n := by rw [Zgs h]; omega
theorem Zw1 {n : Nat} (h0 : 0 < n) (h : n < 256) : be n = [(n : Int)] := by
 rw [Zem h0, show n / 256 = 0 from by omega, Zel, show n % 256 = n from by omega]; rfl
theorem Zw0 {n : Nat} (h0 : 256 <= n) (h : n < 65536) : be n = [((n / 256 : Nat) : Int), ((n % 256 : Nat) : Int)] := by
 rw [Zem (by omega), Zw1 (by omega) (by omega)]; rfl
theorem Zvs {n : Nat} (h0 : 65536 <= n) (h : n < 16777216) : be n = [((n / 65536 : Nat) : Int), ((n / 256 % 256 : Nat) : Int), ((n % 256 : Nat) : Int)] := by
 rw [Zem (by omega), Zw0 (by omega) (by omega), Nat.div_div_eq_div_mul]; rfl
def hd (base n : Nat) : List Int := if n <= 55 then [((base + n : Nat) : Int)] else ((base + 55 + nb n : Nat) : Int) :: be n
theorem hd_len (base n : Nat) : (hd base n).length = 1 + (if 55 < n then nb n else 0) := by
 unfold hd
 by_cases h : n <= 55
 ·rw [if_pos h, if_neg (by omega)]; rfl
 ·rw [if_neg h, if_pos (by omega), List.length_cons, Zkc]; omega
def bare (l : Bool) (bs : List Int) : Bool := !l && (decide (bs.length = 1) && decide (bs.headD 0 < 128))
def baseOf (l : Bool) : Nat := if l then 192 else 128
mutual
def enc : T -> List Int
 | .mk l bs its => if bare l (bs ++ encs its) then bs ++ encs its else hd (baseOf l) (bs ++ encs its).length ++ (bs ++ encs its)
def encs : List T -> List Int
 | [] => []
 | t :: r => enc t ++ encs r
end
def bodyOf (t : T) : List Int := t.bs ++ encs t.its
theorem Zcl (l : Bool) (bs : List Int) (its : List T) : enc (.mk l bs its) = if bare l (bs ++ encs its) then bs ++ encs its else hd (baseOf l) (bs ++ encs its).length ++ (bs ++ encs its) := by rw [enc]
theorem Za2 : encs [] = [] := by rw [encs]
theorem Za7 (t : T) (r : List T) : encs (t :: r) = enc t ++ encs r := by rw [encs]
theorem Zcq : ∀ a b : List T, encs (a ++ b) = encs a ++ encs b
 | [], b => by rw [Za2]; rfl
 | t :: r, b => by rw [List.cons_append, Za7, Za7, Zcq r b, List.append_assoc]
mutual
def form : T -> Bool
 | .mk l bs its => (if l then bs.isEmpty else its.isEmpty) && forms its
def forms : List T -> Bool
 | [] => true
 | t :: r => form t && forms r
end
theorem Zeh (l : Bool) (bs : List Int) (its : List T) : form (.mk l bs its) = ((if l then bs.isEmpty else its.isEmpty) && forms its) := by rw [form]
theorem Zck : forms [] = true := by rw [forms]
theorem Zgh (t : T) (r : List T) : forms (t :: r) = (form t && forms r) := by rw [forms]
mutual
def byt : T -> Prop
 | .mk l bs its => (∀ x ∈ bs, 0 <= x /\ x < 256) /\ byts its
def byts : List T -> Prop
 | [] => True
 | t :: r => byt t /\ byts r
end
theorem Zwz (l : Bool) (bs : List Int) (its : List T) : byt (.mk l bs its) ↔ ((∀ x ∈ bs, 0 <= x /\ x < 256) /\ byts its) := by rw [byt]
theorem Zmq (t : T) (r : List T) : byts (t :: r) ↔ (byt t /\ byts r) := by rw [byts]
def wt (l : Bool) (bs : List Int) (d : Nat) : Nat := if l && d == 0 then 0 else max bs.length 1
def wrongForm (l : Bool) (bs : List Int) (its : List T) : Bool := (l && decide (0 < bs.length)) || (!l && decide (0 < its.length))
mutual
def wk : T -> Nat -> Nat -> Nat × Nat
 | .mk l bs its, d, w =>
  if l && decide (8 <= d) then (w, 21)
  else if wrongForm l bs its then (w, 23)
  else if 16777215 < w + wt l bs d then (w + wt l bs d, 20)
  else wks its (d + 1) (w + wt l bs d)
def wks : List T -> Nat -> Nat -> Nat × Nat
 | [], d, w => (w, 0)
 | t :: r, d, w => if (wk t d w).2 = 0 then wks r d (wk t d w).1 else wk t d w
end
theorem Zkj (l : Bool) (bs : List Int) (its : List T) (d w : Nat) : wk (.mk l bs its) d w = if l && decide (8 <= d) then (w, 21) else if wrongForm l bs its then (w, 23) else if 16777215 < w + wt l bs d then (w + wt l bs d, 20) else wks its (d + 1) (w + wt l bs d) := by rw [wk]
theorem Zch (d w : Nat) : wks [] d w = (w, 0) := by rw [wks]
theorem Zc9 (t : T) (r : List T) (d w : Nat) : wks (t :: r) d w = if (wk t d w).2 = 0 then wks r d (wk t d w).1 else wk t d w := by rw [wks]
mutual
def sz : T -> Nat
 | .mk l bs its => if bare l bs then bs.length + szs its else 1 + (bs.length + szs its) + (if 55 < bs.length + szs its then nb (bs.length + szs its) else 0)
def szs : List T -> Nat
 | [] => 0
 | t :: r => sz t + szs r
end
def szOf (l : Bool) (bs : List Int) (n : Nat) : Nat := if bare l bs then n else 1 + n + (if 55 < n then nb n else 0)
def szb (t : T) : Nat := t.bs.length + szs t.its
theorem Zuj (l : Bool) (bs : List Int) (its : List T) : sz (.mk l bs its) = szOf l bs (bs.length + szs its) := by rw [sz]; rfl
theorem Zdz : szs [] = 0 := by rw [szs]
theorem Zeo (t : T) (r : List T) : szs (t :: r) = sz t + szs r := by rw [szs]
theorem Zji : ∀ a b : List T, szs (a ++ b) = szs a + szs b
 | [], b => by rw [Zdz]; simp
 | t :: r, b => by rw [List.cons_append, Zeo, Zeo, Zji r b]; omega
theorem T.ind {p : T -> Prop} (h : ∀ l bs its, (∀ t ∈ its, p t) -> p (.mk l bs its)) : ∀ t, p t := by
 intro t
 refine T.rec (motive_1 := p) (motive_2 := fun its => ∀ t ∈ its, p t) (fun l bs its ih => h l bs its ih) (fun t ht => by cases ht) (fun t r ht hr => ?_) t
 intro x hx
 rcases List.mem_cons.1 hx with rfl | hx
 ·exact ht
 ·exact hr x hx
theorem Zb8 {bs : List Int} {its : List T} (h : form (.mk false bs its) = true) : its = [] := by
 rw [Zeh] at h
 cases its with
 | nil => rfl
 | cons t r => simp at h
theorem Zct {bs : List Int} {its : List T} (h : form (.mk true bs its) = true) : bs = [] /\ forms its = true := by
 rw [Zeh] at h
 cases bs with
 | nil => simpa using h
 | cons t r => simp at h
theorem Zbl : ∀ {its : List T}, forms its = true -> ∀ t ∈ its, form t = true
 | [], _, t, ht => by cases ht
 | x :: r, h, t, ht => by
  rw [Zgh, Bool.and_eq_true] at h
  rcases List.mem_cons.1 ht with rfl | ht
  ·exact h.1
  ·exact Zbl h.2 t ht
theorem Zvt (bs : List Int) (l : Bool) (its : List T) (h : form (.mk l bs its) = true) : bare l (bs ++ encs its) = bare l bs := by
 cases l with
 | true => simp [bare]
 | false => rw [Zb8 h, Za2, List.append_nil]
theorem Zrc {its : List T} (h : ∀ t ∈ its, sz t = (enc t).length) : szs its = (encs its).length := by
 induction its with
 | nil => rw [Zdz, Za2]; rfl
 | cons t r ih =>
  rw [Zeo, Za7, List.length_append, h t (List.mem_cons_self ..), ih fun x hx => h x (List.mem_cons_of_mem _ hx)]
theorem Zv4 : ∀ t, form t = true -> sz t = (enc t).length := by
 refine T.ind fun l bs its ih h => ?_
 have hf : forms its = true := by
  cases l with
  | true => exact (Zct h).2
  | false => rw [Zb8 h, Zck]
 have hs := Zrc (its := its) fun t ht => ih t ht (Zbl hf t ht)
 rw [Zuj, Zcl, Zvt _ _ _ h, szOf]
 by_cases hb : bare l bs = true
 ·rw [if_pos hb, if_pos hb, hs, List.length_append]
 ·rw [if_neg hb, if_neg hb, List.length_append, hd_len, List.length_append, hs]; omega
theorem Zh0 {t : T} (h : form t = true) : szb t = (bodyOf t).length := by
 cases t with
 | mk l bs its =>
  have hf : forms its = true := by
   cases l with
   | true => exact (Zct h).2
   | false => rw [Zb8 h, Zck]
  show bs.length + szs its = (bs ++ encs its).length
  rw [List.length_append, Zrc fun t ht => Zv4 t (Zbl hf t ht)]
theorem Zm0 : ∀ {its : List T} {d w : Nat}, (wks its d w).2 = 0 -> ∀ t ∈ its, ∃ w', (wk t d w').2 = 0
 | [], _, _, _, t, ht => by cases ht
 | x :: r, d, w, h, t, ht => by
  rw [Zc9] at h
  by_cases h0 : (wk x d w).2 = 0
  ·rw [if_pos h0] at h
   rcases List.mem_cons.1 ht with rfl | ht
   ·exact ⟨w, h0⟩
   ·exact Zm0 h t ht
  ·rw [if_neg h0] at h; exact absurd h h0
theorem Zo5 {its : List T} (h : ∀ t ∈ its, form t = true) : forms its = true := by
 induction its with
 | nil => exact Zck
 | cons t r ih => rw [Zgh, h t (List.mem_cons_self ..), ih fun x hx => h x (List.mem_cons_of_mem _ hx)]; rfl
theorem Zq3 {l : Bool} {bs : List Int} {its : List T} {d w : Nat} (h : (wk (.mk l bs its) d w).2 = 0) : (l = true -> d < 8) /\ wrongForm l bs its = false /\ w + wt l bs d <= 16777215 /\ wk (.mk l bs its) d w = wks its (d + 1) (w + wt l bs d) := by
 rw [Zkj] at h ⊢
 by_cases h1 : (l && decide (8 <= d)) = true
 ·rw [if_pos h1] at h; cases h
 ·rw [if_neg h1] at h ⊢
  by_cases h2 : wrongForm l bs its = true
  ·rw [if_pos h2] at h; cases h
  ·rw [if_neg h2] at h ⊢
   by_cases h3 : 16777215 < w + wt l bs d
   ·rw [if_pos h3] at h; cases h
   ·rw [if_neg h3] at h ⊢
    refine ⟨fun hl => ?_, by simpa using h2, by omega, rfl⟩
    subst hl
    simp at h1
    omega
theorem Zcm {l : Bool} {bs : List Int} {its : List T} (h : wrongForm l bs its = false) : (if l then bs.isEmpty else its.isEmpty) = true := by
 cases l with
 | true => cases bs <;> simp_all [wrongForm]
 | false => cases its <;> simp_all [wrongForm]
theorem Zhw : ∀ t, ∀ d w, (wk t d w).2 = 0 -> form t = true := by
 refine T.ind fun l bs its ih d w h => ?_
 obtain ⟨_, h2, _, h4⟩ := Zq3 h
 rw [h4] at h
 rw [Zeh, Zcm h2, Bool.true_and]
 exact Zo5 fun t ht => let ⟨w', hw⟩ := Zm0 h t ht; ih t ht _ _ hw
theorem Zv0 {its : List T} (ih : ∀ t ∈ its, ∀ d w, 0 < d -> (wk t d w).2 = 0 -> w <= (wk t d w).1 /\ (wk t d w).1 <= 16777215 + w /\ sz t <= 10 * ((wk t d w).1 - w) /\ (w <= 16777215 -> (wk t d w).1 <= 16777215)) :
  ∀ d w, 0 < d -> (wks its d w).2 = 0 -> w <= (wks its d w).1 /\ szs its <= 10 * ((wks its d w).1 - w) /\ (w <= 16777215 -> (wks its d w).1 <= 16777215) := by
 induction its with
 | nil => intro d w _ _; rw [Zch, Zdz]; exact ⟨Nat.le_refl _, by simp, fun h => h⟩
 | cons t r ihr =>
  intro d w hd h
  rw [Zc9] at h ⊢
  by_cases h0 : (wk t d w).2 = 0
  ·rw [if_pos h0] at h ⊢
   obtain ⟨a1, _, a2, a3⟩ := ih t (List.mem_cons_self ..) d w hd h0
   obtain ⟨b1, b2, b3⟩ := ihr (fun x hx => ih x (List.mem_cons_of_mem _ hx)) d _ hd h
   rw [Zeo]
   exact ⟨by omega, by omega, fun hw => b3 (a3 hw)⟩
  ·rw [if_neg h0] at h; exact absurd h h0
theorem Zyx {l : Bool} {bs : List Int} {d : Nat} (h : 0 < d) : wt l bs d = max bs.length 1 := by
 unfold wt
 rw [if_neg]
 simp
 omega
theorem Zre (l : Bool) (bs : List Int) (n : Nat) (h : n < 4294967296) : szOf l bs n <= n + 5 := by
 unfold szOf
 split
 ·omega
 ·split
  ·have := Zzi h; omega
  ·omega
theorem Zyz : ∀ t, ∀ d w, 0 < d -> (wk t d w).2 = 0 -> w <= (wk t d w).1 /\ (wk t d w).1 <= 16777215 + w /\ sz t <= 10 * ((wk t d w).1 - w) /\ (w <= 16777215 -> (wk t d w).1 <= 16777215) := by
 refine T.ind fun l bs its ih d w hd h => ?_
 obtain ⟨_, h2, h3, h4⟩ := Zq3 h
 rw [h4] at h ⊢
 obtain ⟨b1, b2, b3⟩ := Zv0 ih (d + 1) _ (by omega) h
 have b4 := b3 h3
 rw [Zyx hd] at *
 have hf := Zcm h2
 rw [Zuj]
 cases l with
 | true =>
  have : bs = [] := by simpa using hf
  subst this
  have hx : (([] : List Int).length + szs its) = szs its := by simp
  rw [hx]
  have hl : max ([] : List Int).length 1 = 1 := by simp
  rw [hl] at b1 b2 b3 b4 h3 ⊢
  have := Zre true [] (szs its) (by omega)
  exact ⟨by omega, by omega, by omega, fun _ => b4⟩
 | false =>
  have : its = [] := by simpa using hf
  subst this
  rw [Zdz]
  have := Zre false bs bs.length (by omega)
  rw [Zch] at *
  exact ⟨by show w <= w + _; omega, by show w + _ <= _; omega, by show szOf false bs bs.length <= 10 * (w + max bs.length 1 - w); omega, fun _ => h3⟩
theorem Zf5 : ∀ (a b : List T) (d w : Nat), wks (a ++ b) d w = if (wks a d w).2 = 0 then wks b d (wks a d w).1 else wks a d w
 | [], b, d, w => by rw [Zch]; rfl
 | t :: r, b, d, w => by
  rw [List.cons_append, Zc9, Zc9]
  by_cases h : (wk t d w).2 = 0
  ·rw [if_pos h, if_pos h, Zf5 r b]
  ·rw [if_neg h, if_neg h, if_neg h]
theorem Zbq {α : Type} {l : List α} {k : Nat} {t : α} (h : l[k]? = some t) : l.take (k + 1) = l.take k ++ [t] := by
 rw [List.take_add_one, h]; rfl
theorem Zll {α : Type} {l : List α} {k : Nat} {t : α} (h : l[k]? = some t) : l = l.take k ++ t :: l.drop (k + 1) := by
 obtain ⟨hk, e⟩ := List.getElem?_eq_some_iff.1 h
 rw [<- e]
 simp
theorem Zkh {its : List T} {k d w W : Nat} {t : T} (h : its[k]? = some t) (h0 : wks (its.take k) d w = (W, 0)) (h1 : (wk t d W).2 = 0) : wks (its.take (k + 1)) d w = ((wk t d W).1, 0) := by
 rw [Zbq h, Zf5, h0, if_pos rfl, Zc9, if_pos h1, Zch]
theorem Zki {its : List T} {k d w W : Nat} {t : T} (h : its[k]? = some t) (h0 : wks (its.take k) d w = (W, 0)) (h1 : (wk t d W).2 ≠ 0) : wks its d w = wk t d W := by
 rw [Zll h, Zf5, h0, if_pos rfl, Zc9, if_neg h1]
theorem Zui {its : List T} {k : Nat} {t : T} (h : its[k]? = some t) : szs (its.take (k + 1)) = szs (its.take k) + sz t := by
 rw [Zbq h, Zji, Zeo, Zdz]
 rfl
theorem Zhv {its : List T} {d w W : Nat} (hd : 0 < d) (hw : w <= 16777215) (h : wks its d w = (W, 0)) : w <= W /\ W <= 16777215 /\ szs its <= 10 * (W - w) := by
 obtain ⟨h1, h2, h3⟩ := Zv0 (its := its) (fun t _ => Zyz t) d w hd (by rw [h])
 rw [h] at h1 h2 h3
 exact ⟨h1, h3 hw, h2⟩
theorem Zkk {t : T} {d w : Nat} (hd : 0 < d) (hw : w <= 16777215) (h : (wk t d w).2 = 0) : w <= (wk t d w).1 /\ (wk t d w).1 <= 16777215 /\ sz t <= 10 * ((wk t d w).1 - w) := by
 obtain ⟨h1, _, h2, h3⟩ := Zyz t d w hd h
 exact ⟨h1, h3 hw, h2⟩
theorem Zkn (l : Bool) (bs : List Int) (n : Nat) : n <= szOf l bs n := by unfold szOf; split <;> omega
theorem Zv3 (t : T) : sz t = szOf t.l t.bs (szb t) := by
 cases t with
 | mk l bs its => exact Zuj l bs its
def val (b : List Int) : Nat := b.foldl (fun n x => n * 256 + x.toNat) 0
theorem Zg5 (b : List Int) (x : Int) : val (b ++ [x]) = val b * 256 + x.toNat := by simp [val]
theorem Zv2 : ∀ (k : Nat) (b : List Int), b.length = k -> (∀ x ∈ b, 0 <= x /\ x < 256) -> val b < 256 ^ k
 | 0, b, h, _ => by rw [List.eq_nil_of_length_eq_zero h]; decide
 | k + 1, b, h, hb => by
  obtain ⟨i, x, rfl⟩ : ∃ i x, b = i ++ [x] := ⟨b.dropLast, b.getLast (by intro hh; rw [hh] at h; simp at h), (List.dropLast_concat_getLast _).symm⟩
  rw [Zg5]
  have h1 := Zv2 k i (by simp at h; omega) (fun y hy => hb y (List.mem_append_left _ hy))
  have h2 := hb x (by simp)
  rw [Nat.pow_succ]
  omega
theorem Zby {b : List Int} (hb : ∀ x ∈ b, 0 <= x /\ x < 256) {j : Nat} (hj : j <= b.length) (h3 : j <= 3) : val (b.take j) < 256 ^ j /\ 256 ^ j <= 16777216 := by
 refine ⟨Zv2 j _ (by rw [List.length_take]; omega) (fun x hx => hb x (List.mem_of_mem_take hx)), ?_⟩
 have : j = 0 \/ j = 1 \/ j = 2 \/ j = 3 := by omega
 rcases this with rfl | rfl | rfl | rfl <;> decide
theorem Zkl {b : List Int} {j : Nat} (hj : j < b.length) : val (b.take (j + 1)) = val (b.take j) * 256 + (b.getD j 0).toNat := by
 rw [Zbq (List.getElem?_eq_getElem hj), Zg5]
 simp [List.getElem?_eq_getElem hj]
def lenIn (b : List Int) (c : Nat) : Nat × Nat :=
 if 3 < c then (0, 23) else if b.length < c then (0, 22) else if b.headD 0 = 0 \/ val (b.take c) <= 55 then (0, 23) else (val (b.take c), 0)
inductive HR where
 | bad (e : Nat)
 | ok (f t : Nat)
def nOf (c : Int) : Nat := (c - (if 192 <= c then 192 else 128)).toNat
def hdr (deep : Bool) (b : List Int) : HR :=
 match b with
 | [] => .bad 22
 | c :: r =>
  if 192 <= c /\ deep = true then .bad 21
  else if c < 128 then .ok 0 1
  else if 55 < nOf c then
   if (lenIn r (nOf c - 55)).2 ≠ 0 then .bad (lenIn r (nOf c - 55)).2
   else if b.length - (1 + (nOf c - 55)) < (lenIn r (nOf c - 55)).1 then .bad 22
   else .ok (1 + (nOf c - 55)) (1 + (nOf c - 55) + (lenIn r (nOf c - 55)).1)
  else if b.length - 1 < nOf c then .bad 22 else .ok 1 (1 + nOf c)
inductive R where
 | bad (e : Nat)
 | ok (t : T) (n : Nat)
inductive RL where
 | bad (e : Nat)
 | ok (ts : List T)
def rdAll (f : List Int -> R) : Nat -> List Int -> RL
 | _, [] => .ok []
 | 0, _ :: _ => .bad 0
 | n + 1, x :: b => match f (x :: b) with
  | .bad e => .bad e
  | .ok t m => match rdAll f n ((x :: b).drop m) with
   | .bad e => .bad e
   | .ok ts => .ok (t :: ts)
def rd1 (g : List Int -> R) (deep : Bool) (b : List Int) : R :=
 match hdr deep b with
 | .bad e => .bad e
 | .ok f t =>
  if b.headD 0 < 192 then (if f = 1 /\ t = 2 /\ b.getD 1 0 < 128 then .bad 23 else .ok (.mk false ((b.take t).drop f) []) t)
  else match rdAll g ((b.take t).drop f).length ((b.take t).drop f) with
   | .bad e => .bad e
   | .ok ts => .ok (.mk true [] ts) t
def rd : Nat -> List Int -> R
 | 0 => rd1 (fun _ => .bad 21) true
 | k + 1 => rd1 (rd k) false
theorem Zfw {b : List Int} {c : Nat} (h : (lenIn b c).2 = 0) : c <= 3 /\ c <= b.length /\ b.headD 0 ≠ 0 /\ 55 < val (b.take c) /\ (lenIn b c).1 = val (b.take c) := by
 unfold lenIn at *
 by_cases h1 : 3 < c
 ·rw [if_pos h1] at h; cases h
 ·rw [if_neg h1] at h ⊢
  by_cases h2 : b.length < c
  ·rw [if_pos h2] at h; cases h
  ·rw [if_neg h2] at h ⊢
   by_cases h3 : b.headD 0 = 0 \/ val (b.take c) <= 55
   ·rw [if_pos h3] at h; cases h
   ·rw [if_neg h3]
    exact ⟨by omega, by omega, fun h => h3 (.inl h), by omega, rfl⟩
theorem Zmh {deep : Bool} {b : List Int} {f t : Nat} (h : hdr deep b = .ok f t) : f <= t /\ t <= b.length /\ 1 <= t /\ 0 < b.length := by
 unfold hdr at h
 split at h
 ·cases h
 ·rename_i c r
  split at h
  ·cases h
  ·split at h
   ·cases h; simp
   ·split at h
    ·split at h
     ·cases h
     ·rename_i h3 h4
      have := Zfw (Decidable.not_not.1 h4)
      split at h
      ·cases h
      ·cases h
       simp only [List.length_cons] at *
       omega
    ·split at h
     ·cases h
     ·cases h
      simp only [List.length_cons] at *
      omega
theorem Zxl {g : List Int -> R} {deep : Bool} {b : List Int} {t : T} {n : Nat} (h : rd1 g deep b = .ok t n) : 1 <= n /\ n <= b.length := by
 unfold rd1 at h
 split at h
 ·cases h
 ·rename_i f t' hh
  have := Zmh hh
  split at h
  ·split at h
   ·cases h
   ·cases h; omega
  ·split at h
   ·cases h
   ·cases h; omega
theorem rd_n {k : Nat} {b : List Int} {t : T} {n : Nat} (h : rd k b = .ok t n) : 1 <= n /\ n <= b.length := by
 cases k with
 | zero => exact Zxl h
 | succ k => exact Zxl h
theorem Zc4 (f : List Int -> R) (n : Nat) : rdAll f n [] = .ok [] := by cases n <;> rfl
theorem Zdp {f : List Int -> R} {n e : Nat} {b : List Int} (hb : b ≠ []) (h : f b = .bad e) : rdAll f (n + 1) b = .bad e := by
 cases b with
 | nil => exact absurd rfl hb
 | cons x b => rw [rdAll, h]
theorem Zeq {f : List Int -> R} {n m : Nat} {t : T} {b : List Int} (hb : b ≠ []) (h : f b = .ok t m) : rdAll f (n + 1) b = match rdAll f n (b.drop m) with | .bad e => .bad e | .ok ts => .ok (t :: ts) := by
 cases b with
 | nil => exact absurd rfl hb
 | cons x b => rw [rdAll, h]
theorem Zjt {f : List Int -> R} (hf : ∀ b t m, f b = .ok t m -> 1 <= m) : ∀ n m b, b.length <= n -> b.length <= m -> rdAll f n b = rdAll f m b
 | _, _, [], _, _ => by rw [Zc4, Zc4]
 | n + 1, m + 1, x :: b, h1, h2 => by
  cases h : f (x :: b) with
  | bad e => rw [Zdp (by simp) h, Zdp (by simp) h]
  | ok t k =>
   have hk := hf _ _ _ h
   rw [Zeq (by simp) h, Zeq (by simp) h, Zjt hf n m ((x :: b).drop k) (by simp at *; omega) (by simp at *; omega)]
end Go.Proofs.YtdkpilgelgjieaaGreat
namespace Go.Proofs.YtdkpilgelgjieaaGreat
open Go.RowKit
structure V where
 l : Bool
 ba : Option Addr
 bn : Nat
 bc : Nat
 ia : Option Addr
 m : Nat
 ic : Nat
def V.v (x : V) : Value := .agg #[.bool x.l, .slice x.ba x.bn x.bc, .slice x.ia x.m x.ic]
mutual
def Lies (w : World) : T -> V -> Prop
 | .mk l bs its, x => x.l = l /\ Ag w x.ba x.bn x.bc bs /\ x.m = its.length /\ x.m <= x.ic /\ x.ic <= maxLen /\ (x.bn <= 140737488351232 /\ x.m <= 140737488351232) /\ LiesAll w its x.ia 0
def LiesAll (w : World) : List T -> Option Addr -> Nat -> Prop
 | [], _, _ => True
 | t :: r, a, k => (∃ g off y, a = some ⟨g, off, none⟩ /\ w.cell? ⟨g, off + k * 3, none⟩ = some (.bool y.l) /\ w.cell? ⟨g, off + k * 3 + 1, none⟩ = some (.slice y.ba y.bn y.bc) /\ w.cell? ⟨g, off + k * 3 + 2, none⟩ = some (.slice y.ia y.m y.ic) /\ Lies w t y) /\ LiesAll w r a (k + 1)
end
theorem lies_eq {w : World} {l : Bool} {bs : List Int} {its : List T} {x : V} : Lies w (.mk l bs its) x ↔ (x.l = l /\ Ag w x.ba x.bn x.bc bs /\ x.m = its.length /\ x.m <= x.ic /\ x.ic <= maxLen /\ (x.bn <= 140737488351232 /\ x.m <= 140737488351232) /\ LiesAll w its x.ia 0) := by rw [Lies]
theorem liesAll_cons {w : World} {t : T} {r : List T} {a : Option Addr} {k : Nat} : LiesAll w (t :: r) a k ↔ ((∃ g off y, a = some ⟨g, off, none⟩ /\ w.cell? ⟨g, off + k * 3, none⟩ = some (.bool y.l) /\ w.cell? ⟨g, off + k * 3 + 1, none⟩ = some (.slice y.ba y.bn y.bc) /\ w.cell? ⟨g, off + k * 3 + 2, none⟩ = some (.slice y.ia y.m y.ic) /\ Lies w t y) /\ LiesAll w r a (k + 1)) := by rw [LiesAll]
theorem Zbm {w : World} {a : Option Addr} {k : Nat} : LiesAll w [] a k := by rw [LiesAll]; trivial
structure At (w : World) (a : Option Addr) (k : Nat) (t : T) (g off : Nat) (y : V) : Prop where
 ha : a = some ⟨g, off, none⟩
 c0 : w.cell? ⟨g, off + k * 3, none⟩ = some (.bool y.l)
 c1 : w.cell? ⟨g, off + k * 3 + 1, none⟩ = some (.slice y.ba y.bn y.bc)
 c2 : w.cell? ⟨g, off + k * 3 + 2, none⟩ = some (.slice y.ia y.m y.ic)
 li : Lies w t y
theorem Zb3 {w : World} {a : Option Addr} : ∀ {its : List T} {k : Nat}, LiesAll w its a k -> ∀ i, ∀ t, its[i]? = some t -> ∃ g off y, At w a (k + i) t g off y
 | [], k, _, i, t, h => by simp at h
 | t :: r, k, hl, i, u, h => by
  obtain ⟨⟨g, off, y, h1, h2, h3, h4, h5⟩, hr⟩ := liesAll_cons.1 hl
  cases i with
  | zero =>
   simp at h
   subst h
   exact ⟨g, off, y, h1, h2, h3, h4, h5⟩
  | succ i =>
   simp at h
   obtain ⟨g', off', y', h'⟩ := Zb3 hr i u h
   rw [show k + 1 + i = k + (i + 1) from by omega] at h'
   exact ⟨g', off', y', h'⟩
theorem Zaw {w w' : World} (hb : Below w.heap.size w w') : ∀ t, ∀ x, Lies w t x -> Lies w' t x := by
 refine T.ind fun l bs its ih x h => ?_
 obtain ⟨h1, h2, h3, h4, h5, h7, h6⟩ := lies_eq.1 h
 refine lies_eq.2 ⟨h1, h2.at hb, h3, h4, h5, h7, ?_⟩
 clear h1 h2 h3 h4 h5 h7 h
 generalize x.ia = a at h6
 generalize 0 = k at h6
 induction its generalizing k with
 | nil => exact Zbm
 | cons t r ihr =>
  obtain ⟨⟨g, off, y, h1, h2, h3, h4, h5⟩, hr⟩ := liesAll_cons.1 h6
  refine liesAll_cons.2 ⟨⟨g, off, y, h1, ?_, ?_, ?_, ih t (List.mem_cons_self ..) y h5⟩, ihr (fun u hu => ih u (List.mem_cons_of_mem _ hu)) _ hr⟩
  ·exact (hb.cell (p := ⟨g, off + k * 3, none⟩) (block_lt_of_cell h2)).trans h2
  ·exact (hb.cell (p := ⟨g, off + k * 3 + 1, none⟩) (block_lt_of_cell h3)).trans h3
  ·exact (hb.cell (p := ⟨g, off + k * 3 + 2, none⟩) (block_lt_of_cell h4)).trans h4
theorem Zu7 {w : World} : ∀ t, ∀ x, Lies w t x -> byt t := by
 refine T.ind fun l bs its ih x h => ?_
 obtain ⟨h1, h2, h3, h4, h5, h7, h6⟩ := lies_eq.1 h
 refine (Zwz l bs its).2 ⟨h2.b, ?_⟩
 clear h1 h2 h3 h4 h5 h7 h
 generalize x.ia = a at h6
 generalize 0 = k at h6
 induction its generalizing k with
 | nil => rw [byts]; trivial
 | cons t r ihr =>
  obtain ⟨⟨g, off, y, h1, h2, h3, h4, h5⟩, hr⟩ := liesAll_cons.1 h6
  exact (Zmq t r).2 ⟨ih t (List.mem_cons_self ..) y h5, ihr (fun u hu => ih u (List.mem_cons_of_mem _ hu)) _ hr⟩
theorem ag_head {w : World} {a : Option Addr} {n c : Nat} {bs : List Int} (h : Ag w a n c bs) (h1 : 0 < n) : ∃ g off, a = some ⟨g, off, none⟩ /\ n <= c /\ c <= maxLen /\ ∀ j, j < n -> w.cell? ⟨g, off + j, none⟩ = some (.int .u8 (bs.getD j 0)) := by
 rcases h.i with ⟨h0, _⟩ | ⟨g, off, h2, h3, h4, h5, h6, h7⟩
 ·omega
 ·exact ⟨g, off, h2, h5, h6, fun j hj => h7 j (by omega)⟩
theorem cell_alloc {w : World} {g off : Nat} {v : Value} (h : w.cell? ⟨g, off, none⟩ = some v) : ∀ o, (w.alloc o).cell? ⟨g, off, none⟩ = some v := fun o => (World.cell?_of_block (w := w) (Below.heap_alloc w _ _ (block_lt_of_cell h))).trans h
set_option maxHeartbeats 400000 in
theorem Zpn (l : Bool) (ba : Option Addr) (bn bc : Nat) (ia : Option Addr) (m ic : Nat) (bs : List Int) (w : World) (h : Ag w ba bn bc bs) :
  Calls Tryz.prog 84 #[.agg #[.bool l, .slice ba bn bc, .slice ia m ic]] w fun e w' => e = .returned (.bool (bare l bs)) /\ Below w.heap.size w w' := by
 cases l with
 | true =>
  go_enter Tryz.func84, Tryz.ntmps84
  go_wp2_with fail
  go_ret
  exact ⟨by simp [bare], (Below.refl _ _).alloc (Nat.le_refl _) _⟩
 | false =>
  by_cases h1 : bn = 1
  ·subst h1
   obtain ⟨g, off, rfl, hc1, hc2, hc⟩ := ag_head h (by omega)
   have hc := hc 0 (by omega)
   have hl := h.l
   match bs, hl with
   | [x], _ =>
    simp at hc
    have hx := h.b x (by simp)
    have hc2 := cell_alloc hc
    clear h
    go_enter Tryz.func84, Tryz.ntmps84
    go_wp2_with fail
    go_ret
    exact ⟨by simp [bare], (Below.refl _ _).alloc (Nat.le_refl _) _⟩
  ·have hl := h.l
   have hb : (bn == 1) = false := by simp [h1]
   have hbi : ((bn : Int) == 1) = false := by simp; omega
   clear h
   go_enter Tryz.func84, Tryz.ntmps84
   go_wp2_with fail
   go_ret
   exact ⟨by simp [bare, hl, h1], (Below.refl _ _).alloc (Nat.le_refl _) _⟩
set_option maxHeartbeats 400000 in
theorem Zda (l : Bool) (ba : Option Addr) (bn bc : Nat) (ia : Option Addr) (m ic : Nat) (bs : List Int) (d : Nat) (w : World) (hl : bs.length = bn) (hn : bn <= maxLen) :
  Calls Tryz.prog 104 #[.agg #[.bool l, .slice ba bn bc, .slice ia m ic], .int .i64 d] w fun e w' => e = .returned (.int .i64 (wt l bs d : Nat)) /\ Below w.heap.size w w' := by
 unfold maxLen at hn
 cases l with
 | true =>
  by_cases hd : d = 0
  ·subst hd
   go_enter Tryz.func104, Tryz.ntmps104
   go_wp2_with fail
   go_ret
   exact ⟨by simp [wt], (Below.refl _ _).alloc (Nat.le_refl _) _⟩
  ·have hd2 : ((d : Int) == 0) = false := by simp; omega
   go_enter Tryz.func104, Tryz.ntmps104
   go_wp2_with fail
   all_goals
    go_ret
    refine ⟨?_, (Below.refl _ _).alloc (Nat.le_refl _) _⟩
    simp [wt, hd, hl]
    omega
 | false =>
  go_enter Tryz.func104, Tryz.ntmps104
  go_wp2_with fail
  all_goals
   go_ret
   refine ⟨?_, (Below.refl _ _).alloc (Nat.le_refl _) _⟩
   simp [wt, hl]
   omega
set_option maxHeartbeats 400000 in
theorem Zjj (l : Bool) (ba : Option Addr) (bn bc : Nat) (ia : Option Addr) (m ic : Nat) (bs : List Int) (n : Nat) (w : World) (h : Ag w ba bn bc bs) (hn : n < 1000000000) :
  Calls Tryz.prog 83 #[.agg #[.bool l, .slice ba bn bc, .slice ia m ic], .int .i64 n] w fun e w' => e = .returned (.int .i64 (szOf l bs n : Nat)) /\ Below w.heap.size w w' := by
 have HS : Hid (szOf l bs n = if bare l bs then n else 1 + n + (if 55 < n then nb n else 0)) := rfl
 generalize szOf l bs n = r at HS ⊢
 go_enter Tryz.func83, Tryz.ntmps83
 go_wp2_with fail
 refine (Zpn l ba bn bc ia m ic bs _ (h.at ((Below.refl _ _).alloc (Nat.le_refl _) _))).mono ?_
 rintro e w1 ⟨rfl, hb⟩
 have hb2 := ((Below.refl w.heap.size w).alloc (Nat.le_refl _) (.cells #[.bool l, .slice ba bn bc, .slice ia m ic] 94)).trans (hb.mono (by simp))
 clear hb h
 by_cases hbr : bare l bs = true
 ·have HR := HS.out
  rw [if_pos hbr] at HR
  rw [hbr]
  subst HR
  go_wp2_with fail
  go_ret
  exact ⟨rfl, hb2⟩
 ·have HR := HS.out
  have hbr2 : bare l bs = false := by simpa using hbr
  rw [if_neg hbr] at HR
  rw [hbr2]
  by_cases hn5 : 55 < n
  ·rw [if_pos hn5] at HR
   have hn6 : (55 : Int) < n := by omega
   have HH := Hid.mk HR
   clear HR HS
   go_wp2_with fail
   go_loop [5, 6] (fun s q => ∃ sn qn : Nat, s = .int .i64 sn /\ q = .int .i64 qn /\ sn + nb qn = r /\ qn < 1000000000 /\ r < 1000000010) (fun s q => (intOf q).toNat)
   case atStart => exact ⟨1 + n, n, by simp, rfl, by rw [HH.out], hn, by rw [HH.out]; have := Zzi (n := n) (by omega); omega⟩
   case round =>
    obtain ⟨sn, qn, rfl, rfl, hs, hq, hr⟩ := hrel
    have HS := Hid.mk hs
    clear hs
    by_cases h0 : qn = 0
    ·subst h0
     go_wp2_with fail
     go_ret
     have := HS.out
     rw [Zga] at this
     exact ⟨by rw [<- this]; rfl, hb2⟩
    ·have hq0 : (0 : Int) < qn := by omega
     have hsn : sn < 1000000010 := by have := HS.out; omega
     go_wp2_with fail
     go_round
     case rel => exact ⟨sn + 1, qn / 256, by simp, by simp, by have := HS.out; rw [Zgs (by omega)] at this; omega, by omega, hr⟩
     case measure => simp [intOf]; omega
  ·rw [if_neg hn5] at HR
   have hn6 : ¬ (55 : Int) < n := by omega
   subst HR
   go_wp2_with fail
   go_ret
   exact ⟨by simp, hb2⟩
end Go.Proofs.YtdkpilgelgjieaaGreat

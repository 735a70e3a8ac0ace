/- The items of package nest as plain trees, their encodings, what is amiss with them, and what bytes begin with: plain functions. -/
import Derived.Test.YtchgejomcgoaeaaGreatRows
import Derived.WalkKit
import Derived.WalkSpells
import Derived.WalkLawsBesides
import Derived.BigQuiet
import Derived.Deep.QuietTactic
import Derived.Handy
import Derived.Deep.DrawnRows
import Derived.Laws.CopyOwn
import Derived.Laws.AppendOwnNone
import Derived.Deep.RegionLaw
import Derived.Deep.RegionHeld3
import Derived.Deep.DeepCutAuto
set_option linter.unusedVariables false
namespace Go.Proofs.YtchgejomcgoaeaaGreat
variable {n d w k W j : Nat} {α : Type} {b : List Int} {deep : Bool}
inductive T where
  | mk (l : Bool) (bs : List Int) (its : List T)
instance : Inhabited T := ⟨.mk false [] []⟩
def T.l : T → Bool | .mk l _ _ => l
def T.bs : T → List Int | .mk _ bs _ => bs
def T.its : T → List T | .mk _ _ its => its
def nb (n : Nat) : Nat := if h : n = 0 then 0 else 1 + nb (n / 256)
decreasing_by exact Nat.div_lt_self (Nat.pos_of_ne_zero h) (by decide)
def be (n : Nat) : List Int := if h : n = 0 then [] else be (n / 256) ++ [((n % 256 : Nat) : Int)]
decreasing_by exact Nat.div_lt_self (Nat.pos_of_ne_zero h) (by decide)
theorem Zfa : nb 0 = 0 := by rw [nb]; rfl
theorem Zfl (h : 0 < n) : nb n = 1 + nb (n / 256) := by rw [nb, dif_neg (by omega)]
theorem Zek : be 0 = [] := by rw [be]; rfl
theorem Zfr (h : 0 < n) : be n = be (n / 256) ++ [((n % 256 : Nat) : Int)] := by rw [be, dif_neg (by omega)]
theorem Zh8 (n : Nat) : (be n).length = nb n := by
  induction n using Nat.strongRecOn with
  | _ n ih =>
    by_cases h : n = 0
    · subst h; rw [Zek, Zfa]; rfl
    · rw [Zfr (by omega), Zfl (by omega), List.length_append, ih _ (Nat.div_lt_self (by omega) (by decide))]
      simp [Nat.add_comm]
theorem Zpz (h0 : 0 < n) (h : n < 256) : nb n = 1 := by rw [Zfl h0, show n / 256 = 0 from by omega, Zfa]
theorem Zpy (h0 : 256 ≤ n) (h : n < 65536) : nb n = 2 := by rw [Zfl (by omega), Zpz (by omega) (by omega)]
theorem Zis (h0 : 65536 ≤ n) (h : n < 16777216) : nb n = 3 := by rw [Zfl (by omega), Zpy (by omega) (by omega)]
theorem Zx0 (h : n < 4294967296) : nb n ≤ 4 := by
  by_cases h0 : n = 0
  · subst h0; rw [Zfa]; omega
  · by_cases h1 : n < 256
    · rw [Zpz (by omega) h1]; omega
    · by_cases h2 : n < 65536
      · rw [Zpy (by omega) h2]; omega
      · by_cases h3 : n < 16777216
        · rw [Zis (by omega) h3]; omega
        · rw [Zfl (by omega), Zis (by omega) (by omega)]; omega
theorem Zgq (h : n < 16777216) : nb n ≤ 3 := by
  by_cases h0 : n = 0
  · subst h0; rw [Zfa]; omega
  · by_cases h1 : n < 256
    · rw [Zpz (by omega) h1]; omega
    · by_cases h2 : n < 65536
      · rw [Zpy (by omega) h2]; omega
      · rw [Zis (by omega) h]; omega
theorem Zx1 (h : 0 < n) : 1 ≤ nb n := by rw [Zfl h]; omega
def hd (base n : Nat) : List Int := if n ≤ 55 then [((base + n : Nat) : Int)] else ((base + 55 + nb n : Nat) : Int) :: be n
theorem hd_len (base n : Nat) : (hd base n).length = 1 + (if 55 < n then nb n else 0) := by
  unfold hd
  by_cases h : n ≤ 55
  · rw [if_pos h, if_neg (by omega)]; rfl
  · rw [if_neg h, if_pos (by omega), List.length_cons, Zh8]; omega
def bare (l : Bool) (bs : List Int) : Bool := !l && (decide (bs.length = 1) && decide (bs.headD 0 < 128))
def baseOf (l : Bool) : Nat := if l then 192 else 128
mutual
def enc : T → List Int
  | .mk l bs its => if bare l (bs ++ encs its) then bs ++ encs its else hd (baseOf l) (bs ++ encs its).length ++ (bs ++ encs its)
def encs : List T → List Int
  | [] => []
  | t :: r => enc t ++ encs r
end
def bodyOf (t : T) : List Int := t.bs ++ encs t.its
theorem Zb9 (l : Bool) (bs : List Int) (its : List T) : enc (.mk l bs its) = if bare l (bs ++ encs its) then bs ++ encs its else hd (baseOf l) (bs ++ encs its).length ++ (bs ++ encs its) := by rw [enc]
theorem Za4 : encs [] = [] := by rw [encs]
theorem Za9 (t : T) (r : List T) : encs (t :: r) = enc t ++ encs r := by rw [encs]
theorem Zej : ∀ a b : List T, encs (a ++ b) = encs a ++ encs b
  | [], b => by rw [Za4]; rfl
  | t :: r, b => by rw [List.cons_append, Za9, Za9, Zej r b, List.append_assoc]
mutual
def form : T → Bool
  | .mk l bs its => (if l then bs.isEmpty else its.isEmpty) && forms its
def forms : List T → Bool
  | [] => true
  | t :: r => form t && forms r
end
theorem Zdv (l : Bool) (bs : List Int) (its : List T) : form (.mk l bs its) = ((if l then bs.isEmpty else its.isEmpty) && forms its) := by rw [form]
theorem Zcu : forms [] = true := by rw [forms]
theorem Zfd (t : T) (r : List T) : forms (t :: r) = (form t && forms r) := by rw [forms]
mutual
def byt : T → Prop
  | .mk l bs its => (∀ x ∈ bs, 0 ≤ x ∧ x < 256) ∧ byts its
def byts : List T → Prop
  | [] => True
  | t :: r => byt t ∧ byts r
end
theorem Zuf (l : Bool) (bs : List Int) (its : List T) : byt (.mk l bs its) ↔ ((∀ x ∈ bs, 0 ≤ x ∧ x < 256) ∧ byts its) := by rw [byt]
theorem Zkf (t : T) (r : List T) : byts (t :: r) ↔ (byt t ∧ byts r) := by rw [byts]
def wt (l : Bool) (bs : List Int) (d : Nat) : Nat := if l && d == 0 then 0 else max bs.length 1
def wrongForm (l : Bool) (bs : List Int) (its : List T) : Bool := (l && decide (0 < bs.length)) || (!l && decide (0 < its.length))
mutual
def wk : T → Nat → Nat → Nat × Nat
  | .mk l bs its, d, w =>
    if l && decide (8 ≤ d) then (w, 21)
    else if wrongForm l bs its then (w, 23)
    else if 16777215 < w + wt l bs d then (w + wt l bs d, 20)
    else wks its (d + 1) (w + wt l bs d)
def wks : List T → Nat → Nat → Nat × Nat
  | [], d, w => (w, 0)
  | t :: r, d, w => if (wk t d w).2 = 0 then wks r d (wk t d w).1 else wk t d w
end
theorem Zi9 (l : Bool) (bs : List Int) (its : List T) (d w : Nat) : wk (.mk l bs its) d w = if l && decide (8 ≤ d) then (w, 21) else if wrongForm l bs its then (w, 23) else if 16777215 < w + wt l bs d then (w + wt l bs d, 20) else wks its (d + 1) (w + wt l bs d) := by rw [wk]
theorem Zc0 (d w : Nat) : wks [] d w = (w, 0) := by rw [wks]
theorem Zcv (t : T) (r : List T) (d w : Nat) : wks (t :: r) d w = if (wk t d w).2 = 0 then wks r d (wk t d w).1 else wk t d w := by rw [wks]
mutual
def sz : T → Nat
  | .mk l bs its => if bare l bs then bs.length + szs its else 1 + (bs.length + szs its) + (if 55 < bs.length + szs its then nb (bs.length + szs its) else 0)
def szs : List T → Nat
  | [] => 0
  | t :: r => sz t + szs r
end
def szOf (l : Bool) (bs : List Int) (n : Nat) : Nat := if bare l bs then n else 1 + n + (if 55 < n then nb n else 0)
def szb (t : T) : Nat := t.bs.length + szs t.its
theorem Zu1 (l : Bool) (bs : List Int) (its : List T) : sz (.mk l bs its) = szOf l bs (bs.length + szs its) := by rw [sz]; rfl
theorem Zeb : szs [] = 0 := by rw [szs]
theorem Zeo (t : T) (r : List T) : szs (t :: r) = sz t + szs r := by rw [szs]
theorem Zho : ∀ a b : List T, szs (a ++ b) = szs a + szs b
  | [], b => by rw [Zeb]; simp
  | t :: r, b => by rw [List.cons_append, Zeo, Zeo, Zho r b]; omega
theorem T.ind {p : T → Prop} (h : ∀ l bs its, (∀ t ∈ its, p t) → p (.mk l bs its)) : ∀ t, p t := by
  intro t
  refine T.rec (motive_1 := p) (motive_2 := fun its => ∀ t ∈ its, p t) (fun l bs its ih => h l bs its ih) (fun t ht => by cases ht) (fun t r ht hr => ?_) t
  intro x hx
  rcases List.mem_cons.1 hx with rfl | hx
  · exact ht
  · exact hr x hx
theorem Zc7 {bs : List Int} {its : List T} (h : form (.mk false bs its) = true) : its = [] := by
  rw [Zdv] at h
  cases its with
  | nil => rfl
  | cons t r => simp at h
theorem Zez {bs : List Int} {its : List T} (h : form (.mk true bs its) = true) : bs = [] ∧ forms its = true := by
  rw [Zdv] at h
  cases bs with
  | nil => simpa using h
  | cons t r => simp at h
theorem Zbt : ∀ {its : List T}, forms its = true → ∀ t ∈ its, form t = true
  | [], _, t, ht => by cases ht
  | x :: r, h, t, ht => by
    rw [Zfd, Bool.and_eq_true] at h
    rcases List.mem_cons.1 ht with rfl | ht
    · exact h.1
    · exact Zbt h.2 t ht
theorem Ztk (bs : List Int) (l : Bool) (its : List T) (h : form (.mk l bs its) = true) : bare l (bs ++ encs its) = bare l bs := by
  cases l with
  | true => simp [bare]
  | false => rw [Zc7 h, Za4, List.append_nil]
theorem Zoe {its : List T} (h : ∀ t ∈ its, sz t = (enc t).length) : szs its = (encs its).length := by
  induction its with
  | nil => rw [Zeb, Za4]; rfl
  | cons t r ih =>
    rw [Zeo, Za9, List.length_append, h t (List.mem_cons_self ..), ih fun x hx => h x (List.mem_cons_of_mem _ hx)]
theorem Zty : ∀ t, form t = true → sz t = (enc t).length := by
  refine T.ind fun l bs its ih h => ?_
  have hf : forms its = true := by
    cases l with
    | true => exact (Zez h).2
    | false => rw [Zc7 h, Zcu]
  have hs := Zoe (its := its) fun t ht => ih t ht (Zbt hf t ht)
  rw [Zu1, Zb9, Ztk _ _ _ h, szOf]
  by_cases hb : bare l bs = true
  · rw [if_pos hb, if_pos hb, hs, List.length_append]
  · rw [if_neg hb, if_neg hb, List.length_append, hd_len, List.length_append, hs]; omega
theorem Zid {t : T} (h : form t = true) : szb t = (bodyOf t).length := by
  cases t with
  | mk l bs its =>
    have hf : forms its = true := by
      cases l with
      | true => exact (Zez h).2
      | false => rw [Zc7 h, Zcu]
    show bs.length + szs its = (bs ++ encs its).length
    rw [List.length_append, Zoe fun t ht => Zty t (Zbt hf t ht)]
theorem Zkm : ∀ {its : List T} {d w : Nat}, (wks its d w).2 = 0 → ∀ t ∈ its, ∃ w', (wk t d w').2 = 0
  | [], _, _, _, t, ht => by cases ht
  | x :: r, d, w, h, t, ht => by
    rw [Zcv] at h
    by_cases h0 : (wk x d w).2 = 0
    · rw [if_pos h0] at h
      rcases List.mem_cons.1 ht with rfl | ht
      · exact ⟨w, h0⟩
      · exact Zkm h t ht
    · rw [if_neg h0] at h; exact absurd h h0
theorem Zml {its : List T} (h : ∀ t ∈ its, form t = true) : forms its = true := by
  induction its with
  | nil => exact Zcu
  | cons t r ih => rw [Zfd, h t (List.mem_cons_self ..), ih fun x hx => h x (List.mem_cons_of_mem _ hx)]; rfl
theorem Zri {l : Bool} {bs : List Int} {its : List T} (h : (wk (.mk l bs its) d w).2 = 0) : (l = true → d < 8) ∧ wrongForm l bs its = false ∧ w + wt l bs d ≤ 16777215 ∧ wk (.mk l bs its) d w = wks its (d + 1) (w + wt l bs d) := by
  rw [Zi9] at h ⊢
  by_cases h1 : (l && decide (8 ≤ d)) = true
  · rw [if_pos h1] at h; cases h
  · rw [if_neg h1] at h ⊢
    by_cases h2 : wrongForm l bs its = true
    · rw [if_pos h2] at h; cases h
    · rw [if_neg h2] at h ⊢
      by_cases h3 : 16777215 < w + wt l bs d
      · rw [if_pos h3] at h; cases h
      · rw [if_neg h3] at h ⊢
        refine ⟨fun hl => ?_, by simpa using h2, by omega, rfl⟩
        subst hl
        simp at h1
        omega
theorem Zc8 {l : Bool} {bs : List Int} {its : List T} (h : wrongForm l bs its = false) : (if l then bs.isEmpty else its.isEmpty) = true := by
  cases l with
  | true => cases bs <;> simp_all [wrongForm]
  | false => cases its <;> simp_all [wrongForm]
theorem Zn2 : ∀ t, ∀ d w, (wk t d w).2 = 0 → form t = true := by
  refine T.ind fun l bs its ih d w h => ?_
  obtain ⟨_, h2, _, h4⟩ := Zri h
  rw [h4] at h
  rw [Zdv, Zc8 h2, Bool.true_and]
  exact Zml fun t ht => let ⟨w', hw⟩ := Zkm h t ht; ih t ht _ _ hw
theorem Ztr {its : List T} (ih : ∀ t ∈ its, ∀ d w, 0 < d → (wk t d w).2 = 0 → w ≤ (wk t d w).1 ∧ (wk t d w).1 ≤ 16777215 + w ∧ sz t ≤ 10 * ((wk t d w).1 - w) ∧ (w ≤ 16777215 → (wk t d w).1 ≤ 16777215)) :
    ∀ d w, 0 < d → (wks its d w).2 = 0 → w ≤ (wks its d w).1 ∧ szs its ≤ 10 * ((wks its d w).1 - w) ∧ (w ≤ 16777215 → (wks its d w).1 ≤ 16777215) := by
  induction its with
  | nil => intro d w _ _; rw [Zc0, Zeb]; exact ⟨Nat.le_refl _, by simp, fun h => h⟩
  | cons t r ihr =>
    intro d w hd h
    rw [Zcv] at h ⊢
    by_cases h0 : (wk t d w).2 = 0
    · rw [if_pos h0] at h ⊢
      obtain ⟨a1, _, a2, a3⟩ := ih t (List.mem_cons_self ..) d w hd h0
      obtain ⟨b1, b2, b3⟩ := ihr (fun x hx => ih x (List.mem_cons_of_mem _ hx)) d _ hd h
      rw [Zeo]
      exact ⟨by omega, by omega, fun hw => b3 (a3 hw)⟩
    · rw [if_neg h0] at h; exact absurd h h0
theorem Zws {l : Bool} {bs : List Int} (h : 0 < d) : wt l bs d = max bs.length 1 := by
  unfold wt
  rw [if_neg]
  simp
  omega
theorem Zog (l : Bool) (bs : List Int) (n : Nat) (h : n < 4294967296) : szOf l bs n ≤ n + 5 := by
  unfold szOf
  split
  · omega
  · split
    · have := Zx0 h; omega
    · omega
theorem Zwx : ∀ t, ∀ d w, 0 < d → (wk t d w).2 = 0 → w ≤ (wk t d w).1 ∧ (wk t d w).1 ≤ 16777215 + w ∧ sz t ≤ 10 * ((wk t d w).1 - w) ∧ (w ≤ 16777215 → (wk t d w).1 ≤ 16777215) := by
  refine T.ind fun l bs its ih d w hd h => ?_
  obtain ⟨_, h2, h3, h4⟩ := Zri h
  rw [h4] at h ⊢
  obtain ⟨b1, b2, b3⟩ := Ztr ih (d + 1) _ (by omega) h
  have b4 := b3 h3
  rw [Zws hd] at *
  have hf := Zc8 h2
  rw [Zu1]
  cases l with
  | true =>
    have : bs = [] := by simpa using hf
    subst this
    have hx : (([] : List Int).length + szs its) = szs its := by simp
    rw [hx]
    have hl : max ([] : List Int).length 1 = 1 := by simp
    rw [hl] at b1 b2 b3 b4 h3 ⊢
    have := Zog true [] (szs its) (by omega)
    exact ⟨by omega, by omega, by omega, fun _ => b4⟩
  | false =>
    have : its = [] := by simpa using hf
    subst this
    rw [Zeb]
    have := Zog false bs bs.length (by omega)
    rw [Zc0] at *
    exact ⟨by show w ≤ w + _; omega, by show w + _ ≤ _; omega, by show szOf false bs bs.length ≤ 10 * (w + max bs.length 1 - w); omega, fun _ => h3⟩
theorem Ze5 : ∀ (a b : List T) (d w : Nat), wks (a ++ b) d w = if (wks a d w).2 = 0 then wks b d (wks a d w).1 else wks a d w
  | [], b, d, w => by rw [Zc0]; rfl
  | t :: r, b, d, w => by
    rw [List.cons_append, Zcv, Zcv]
    by_cases h : (wk t d w).2 = 0
    · rw [if_pos h, if_pos h, Ze5 r b]
    · rw [if_neg h, if_neg h, if_neg h]
theorem Zdb {l : List α} {t : α} (h : l[k]? = some t) : l.take (k + 1) = l.take k ++ [t] := by
  rw [List.take_add_one, h]; rfl
theorem Zjb {l : List α} {t : α} (h : l[k]? = some t) : l = l.take k ++ t :: l.drop (k + 1) := by
  obtain ⟨hk, e⟩ := List.getElem?_eq_some_iff.1 h
  rw [← e]
  simp
theorem Zrg {its : List T} {t : T} (h : its[k]? = some t) (h0 : wks (its.take k) d w = (W, 0)) (h1 : (wk t d W).2 = 0) : wks (its.take (k + 1)) d w = ((wk t d W).1, 0) := by
  rw [Zdb h, Ze5, h0, if_pos rfl, Zcv, if_pos h1, Zc0]
theorem Zrh {its : List T} {t : T} (h : its[k]? = some t) (h0 : wks (its.take k) d w = (W, 0)) (h1 : (wk t d W).2 ≠ 0) : wks its d w = wk t d W := by
  rw [Zjb h, Ze5, h0, if_pos rfl, Zcv, if_neg h1]
theorem Zrw {its : List T} {t : T} (h : its[k]? = some t) : szs (its.take (k + 1)) = szs (its.take k) + sz t := by
  rw [Zdb h, Zho, Zeo, Zeb]
  rfl
theorem Zi8 {its : List T} (hd : 0 < d) (hw : w ≤ 16777215) (h : wks its d w = (W, 0)) : w ≤ W ∧ W ≤ 16777215 ∧ szs its ≤ 10 * (W - w) := by
  obtain ⟨h1, h2, h3⟩ := Ztr (its := its) (fun t _ => Zwx t) d w hd (by rw [h])
  rw [h] at h1 h2 h3
  exact ⟨h1, h3 hw, h2⟩
theorem Zrj {t : T} (hd : 0 < d) (hw : w ≤ 16777215) (h : (wk t d w).2 = 0) : w ≤ (wk t d w).1 ∧ (wk t d w).1 ≤ 16777215 ∧ sz t ≤ 10 * ((wk t d w).1 - w) := by
  obtain ⟨h1, _, h2, h3⟩ := Zwx t d w hd h
  exact ⟨h1, h3 hw, h2⟩
theorem Zu2 (l : Bool) (bs : List Int) (n : Nat) : n ≤ szOf l bs n := by unfold szOf; split <;> omega
theorem Ztx (t : T) : sz t = szOf t.l t.bs (szb t) := by
  cases t with
  | mk l bs its => exact Zu1 l bs its
def val (b : List Int) : Nat := b.foldl (fun n x => n * 256 + x.toNat) 0
theorem Zfu (b : List Int) (x : Int) : val (b ++ [x]) = val b * 256 + x.toNat := by simp [val]
theorem Ztt : ∀ (k : Nat) (b : List Int), b.length = k → (∀ x ∈ b, 0 ≤ x ∧ x < 256) → val b < 256 ^ k
  | 0, b, h, _ => by rw [List.eq_nil_of_length_eq_zero h]; decide
  | k + 1, b, h, hb => by
    obtain ⟨i, x, rfl⟩ : ∃ i x, b = i ++ [x] := ⟨b.dropLast, b.getLast (by intro hh; rw [hh] at h; simp at h), (List.dropLast_concat_getLast _).symm⟩
    rw [Zfu]
    have h1 := Ztt k i (by simp at h; omega) (fun y hy => hb y (List.mem_append_left _ hy))
    have h2 := hb x (by simp)
    rw [Nat.pow_succ]
    omega
theorem Zda (hb : ∀ x ∈ b, 0 ≤ x ∧ x < 256) (hj : j ≤ b.length) (h3 : j ≤ 3) : val (b.take j) < 256 ^ j ∧ 256 ^ j ≤ 16777216 := by
  refine ⟨Ztt j _ (by rw [List.length_take]; omega) (fun x hx => hb x (List.mem_of_mem_take hx)), ?_⟩
  have : j = 0 ∨ j = 1 ∨ j = 2 ∨ j = 3 := by omega
  rcases this with rfl | rfl | rfl | rfl <;> decide
theorem Zrn (hj : j < b.length) : val (b.take (j + 1)) = val (b.take j) * 256 + (b.getD j 0).toNat := by
  rw [Zdb (List.getElem?_eq_getElem hj), Zfu]
  simp [List.getElem?_eq_getElem hj]
def lenIn (b : List Int) (c : Nat) : Nat × Nat :=
  if 3 < c then (0, 23) else if b.length < c then (0, 22) else if b.headD 0 = 0 ∨ val (b.take c) ≤ 55 then (0, 23) else (val (b.take c), 0)
inductive HR where
  | bad (e : Nat)
  | ok (f t : Nat)
def nOf (c : Int) : Nat := (c - (if 192 ≤ c then 192 else 128)).toNat
def hdr (deep : Bool) (b : List Int) : HR :=
  match b with
  | [] => .bad 22
  | c :: r =>
    if 192 ≤ c ∧ deep = true then .bad 21
    else if c < 128 then .ok 0 1
    else if 55 < nOf c then
      if (lenIn r (nOf c - 55)).2 ≠ 0 then .bad (lenIn r (nOf c - 55)).2
      else if b.length - (1 + (nOf c - 55)) < (lenIn r (nOf c - 55)).1 then .bad 22
      else .ok (1 + (nOf c - 55)) (1 + (nOf c - 55) + (lenIn r (nOf c - 55)).1)
    else if b.length - 1 < nOf c then .bad 22 else .ok 1 (1 + nOf c)
inductive R where
  | bad (e : Nat)
  | ok (t : T) (n : Nat)
inductive RL where
  | bad (e : Nat)
  | ok (ts : List T)
def rdAll (f : List Int → R) : Nat → List Int → RL
  | _, [] => .ok []
  | 0, _ :: _ => .bad 0
  | n + 1, x :: b => match f (x :: b) with
    | .bad e => .bad e
    | .ok t m => match rdAll f n ((x :: b).drop m) with
      | .bad e => .bad e
      | .ok ts => .ok (t :: ts)
def rd1 (g : List Int → R) (deep : Bool) (b : List Int) : R :=
  match hdr deep b with
  | .bad e => .bad e
  | .ok f t =>
    if b.headD 0 < 192 then (if f = 1 ∧ t = 2 ∧ b.getD 1 0 < 128 then .bad 23 else .ok (.mk false ((b.take t).drop f) []) t)
    else match rdAll g ((b.take t).drop f).length ((b.take t).drop f) with
      | .bad e => .bad e
      | .ok ts => .ok (.mk true [] ts) t
def rd : Nat → List Int → R
  | 0 => rd1 (fun _ => .bad 21) true
  | k + 1 => rd1 (rd k) false
theorem Zev {c : Nat} (h : (lenIn b c).2 = 0) : c ≤ 3 ∧ c ≤ b.length ∧ b.headD 0 ≠ 0 ∧ 55 < val (b.take c) ∧ (lenIn b c).1 = val (b.take c) := by
  unfold lenIn at *
  by_cases h1 : 3 < c
  · rw [if_pos h1] at h; cases h
  · rw [if_neg h1] at h ⊢
    by_cases h2 : b.length < c
    · rw [if_pos h2] at h; cases h
    · rw [if_neg h2] at h ⊢
      by_cases h3 : b.headD 0 = 0 ∨ val (b.take c) ≤ 55
      · rw [if_pos h3] at h; cases h
      · rw [if_neg h3]
        exact ⟨by omega, by omega, fun h => h3 (.inl h), by omega, rfl⟩
theorem Zj4 {f t : Nat} (h : hdr deep b = .ok f t) : f ≤ t ∧ t ≤ b.length ∧ 1 ≤ t ∧ 0 < b.length := by
  unfold hdr at h
  split at h
  · cases h
  · rename_i c r
    split at h
    · cases h
    · split at h
      · cases h; simp
      · split at h
        · split at h
          · cases h
          · rename_i h3 h4
            have := Zev (Decidable.not_not.1 h4)
            split at h
            · cases h
            · cases h
              simp only [List.length_cons] at *
              omega
        · split at h
          · cases h
          · cases h
            simp only [List.length_cons] at *
            omega
theorem Zva {g : List Int → R} {t : T} (h : rd1 g deep b = .ok t n) : 1 ≤ n ∧ n ≤ b.length := by
  unfold rd1 at h
  split at h
  · cases h
  · rename_i f t' hh
    have := Zj4 hh
    split at h
    · split at h
      · cases h
      · cases h; omega
    · split at h
      · cases h
      · cases h; omega
theorem rd_n {t : T} (h : rd k b = .ok t n) : 1 ≤ n ∧ n ≤ b.length := by
  cases k with
  | zero => exact Zva h
  | succ k => exact Zva h
theorem Zc3 (f : List Int → R) (n : Nat) : rdAll f n [] = .ok [] := by cases n <;> rfl
theorem Zds {f : List Int → R} {e : Nat} (hb : b ≠ []) (h : f b = .bad e) : rdAll f (n + 1) b = .bad e := by
  cases b with
  | nil => exact absurd rfl hb
  | cons x b => rw [rdAll, h]
theorem Zd0 {f : List Int → R} {m : Nat} {t : T} (hb : b ≠ []) (h : f b = .ok t m) : rdAll f (n + 1) b = match rdAll f n (b.drop m) with | .bad e => .bad e | .ok ts => .ok (t :: ts) := by
  cases b with
  | nil => exact absurd rfl hb
  | cons x b => rw [rdAll, h]
theorem Zhx {f : List Int → R} (hf : ∀ b t m, f b = .ok t m → 1 ≤ m) : ∀ n m b, b.length ≤ n → b.length ≤ m → rdAll f n b = rdAll f m b
  | _, _, [], _, _ => by rw [Zc3, Zc3]
  | n + 1, m + 1, x :: b, h1, h2 => by
    cases h : f (x :: b) with
    | bad e => rw [Zds (by simp) h, Zds (by simp) h]
    | ok t k =>
      have hk := hf _ _ _ h
      rw [Zd0 (by simp) h, Zd0 (by simp) h, Zhx hf n m ((x :: b).drop k) (by simp at *; omega) (by simp at *; omega)]
end Go.Proofs.YtchgejomcgoaeaaGreat
namespace Go.Proofs.YtchgejomcgoaeaaGreat
open Go.RowKit
variable {g base : Nat} {b w0 w w' : World} {a : Option Addr}
theorem Hid.mk {p : Prop} (h : p) : Hid p := h
theorem lt_of_get {α : Type} {xs : Array α} {i : Nat} {x : α} (h : xs[i]? = some x) : i < xs.size := (Array.getElem?_eq_some_iff.1 h).1
theorem Below.row {W w1 : World} (hb : Below W.heap.size W w1) {o : Obj} (h : W.heap[g]? = some o) : w1.heap[g]? = some o := (hb.block g (lt_of_get h)).trans h
structure Touch (g : Nat) (w w' : World) : Prop where
  os : w'.os = w.os
  tape : w'.tape = w.tape
  output : w'.output = w.output
  size : w.heap.size ≤ w'.heap.size
  block : ∀ k, k < w.heap.size → k ≠ g → w'.heap[k]? = w.heap[k]?
theorem Touch.refl (g : Nat) (w : World) : Touch g w w := ⟨rfl, rfl, rfl, Nat.le_refl _, fun _ _ _ => rfl⟩
theorem Touch.trans {a c : World} (h : Touch g a b) (k : Touch g b c) : Touch g a c :=
  ⟨k.os.trans h.os, k.tape.trans h.tape, k.output.trans h.output, Nat.le_trans h.size k.size, fun i hi hg => (k.block i (Nat.lt_of_lt_of_le hi h.size) hg).trans (h.block i hi hg)⟩
theorem Touch.of_below {a : World} (h : Below a.heap.size a b) : Touch g a b := ⟨h.os, h.tape, h.output, h.size, fun i hi _ => h.block i hi⟩
theorem Touch.setCell (g : Nat) (w : World) (o : Nat) (v : Value) : Touch g w (w.setCell ⟨g, o, none⟩ v) := ⟨rfl, rfl, rfl, by simp, fun k _ hk => heap_setCell_other _ _ _ _ hk⟩
theorem Touch.setRow (g : Nat) (w : World) (C : Array Value) : Touch g w (w.setRow g C) := ⟨rfl, rfl, rfl, by simp, fun k _ hk => setRow_other _ _ _ _ hk⟩
theorem Touch.drew (g : Nat) (w : World) : Touch g w w.drew := ⟨rfl, rfl, rfl, Nat.le_refl _, fun _ _ _ => rfl⟩
theorem Touch.below {N : Nat} (h : Below N w0 w) (t : Touch g w w') (hN : N ≤ g) (hs : N ≤ w.heap.size) : Below N w0 w' :=
  h.trans ⟨t.os, t.tape, t.output, t.size, fun k hk => t.block k (by omega) (by omega)⟩
theorem B8_one2 (bs : List Int) : ∀ v ∈ bs.map (Value.int .u8), v.oneCell' = true := by
  intro v hv
  obtain ⟨x, _, rfl⟩ := List.mem_map.1 hv
  rfl
def OwnB (w : World) (base : Nat) (v : Value) (bs : List Int) : Prop := w.ownsRow base 5 1 v bs.length (bs.map (Value.int .u8))
theorem info5 : ∃ i, Tryz.prog.info? 5 = some i ∧ i.zero = some (.int .u8 0) ∧ i.size = 1 ∧ i.bytes = 1 := by
  have h : (Tryz.prog.info? 5).map (fun i => (i.zero, i.size, i.bytes)) = some (some (.int .u8 0), 1, 1) := by kernel_rfl
  cases hq : Tryz.prog.info? 5 with
  | none => rw [hq] at h; simp at h
  | some i => rw [hq] at h; simp at h; exact ⟨i, rfl, h.1, h.2.1, h.2.2⟩
theorem app_own {w : World} {ops : Array Oper} {rest : List Oper} {o : Oper} {a : Act} {Q : Exit → Act → World → Prop} (hgd : o.guard = none) (s x : Operand)
    (ho : o.op = .call { callee := .builtin .append, args := #[s, x], argTypes := #[29, 29] }) (base : Nat) (v : Value) (bs : List Int) (hs : a.eval s = v) (hown : OwnB w base v bs)
    (ad : Addr) (m c : Nat) (news : List Int) (hx : a.eval x = .slice (some ad) m c) (hl : news.length = m) (hnews : ∀ j u, (news.map (Value.int .u8))[j]? = some u → w.cell? (ad.add j) = some u)
    (hbytes : bs.length + m ≤ 140737488355328) (hbase : base ≤ w.heap.size)
    (h : ∀ v' w', OwnB w' base v' (bs ++ news) → w.grownBy w' v.ownBlock → (v' = .slice none 0 0 ↔ v = .slice none 0 0 ∧ m = 0) → wpList Tryz.prog ops Q rest (a.put o.dst v') w') : wpList Tryz.prog ops Q (o :: rest) a w := by
  obtain ⟨i, hi, hz, hsz, hby⟩ := info5
  refine wpList_append_own w hgd s x 29 ho base 5 i (.int .u8 0) 1 1 Tryz.underlying29 hi hz hsz hby rfl (by decide) v bs.length (bs.map (Value.int .u8)) hs hown ad m c (news.map (Value.int .u8)) hx (by simpa using hl) hnews (B8_one2 _) (by unfold maxLen; omega) (by omega) hbase ?_
  intro v' w' h1 h2 h3
  refine h v' w' ?_ h2 h3
  unfold OwnB
  rw [List.length_append, hl, List.map_append]
  exact h1
theorem app_none {w : World} {ops : Array Oper} {rest : List Oper} {o : Oper} {a : Act} {Q : Exit → Act → World → Prop} (hgd : o.guard = none) (s x : Operand)
    (ho : o.op = .call { callee := .builtin .append, args := #[s, x], argTypes := #[29, 29] }) (base : Nat) (v : Value) (bs : List Int) (hs : a.eval s = v) (hown : OwnB w base v bs)
    (hx : a.eval x = .slice none 0 0) (h : wpList Tryz.prog ops Q rest (a.put o.dst v) w) : wpList Tryz.prog ops Q (o :: rest) a w := by
  obtain ⟨i, hi, _, _, _⟩ := info5
  exact wpList_append_own_none hgd s x 29 ho base 5 i 1 Tryz.underlying29 hi v bs.length _ hs hown hx h
def InB (w : World) (a : Option Addr) (len cap : Nat) (bs : List Int) : Prop :=
  (a = none ∧ len = 0 ∧ cap = 0 ∧ bs = []) ∨ ∃ ad, a = some ad ∧ bs.length = len ∧ ∀ j u, (bs.map (Value.int .u8))[j]? = some u → w.cell? (ad.add j) = some u
theorem OwnB.slice {v : Value} {bs : List Int} (h : OwnB w base v bs) (hne : 0 < bs.length) :
    ∃ g cap, v = .slice (some ⟨g, 0, none⟩) bs.length cap ∧ base ≤ g ∧ g < w.heap.size ∧ bs.length ≤ cap ∧ cap ≤ maxLen ∧ ∀ j, j < bs.length → w.cell? ⟨g, j, none⟩ = some (.int .u8 (bs.getD j 0)) := by
  obtain ⟨_, h2⟩ := h
  rcases h2 with ⟨_, h2⟩ | ⟨g, cap, cur, hv, hg, hh, hn, hcap, hsz, ht⟩
  · omega
  · refine ⟨g, cap, hv, hg, lt_of_get hh, hn, hcap, ?_⟩
    intro j hj
    rw [cell_of_row w g j _ _ _ hh]
    have e : (cur.toList.take (bs.length * 1))[j]? = (bs.map (Value.int .u8))[j]? := by rw [ht]
    rw [List.getElem?_take_of_lt (by omega)] at e
    simp at e
    rw [e]
    simp [List.getElem?_eq_getElem hj]
theorem OwnB.alloc {v : Value} {bs : List Int} (h : OwnB w base v bs) (o : Obj) : OwnB (w.alloc o) base v bs := World.ownsRow.alloc h o
theorem OwnB.new (w : World) : OwnB (w.alloc (.cells #[] 5)) w.heap.size (.slice (some ⟨w.heap.size, 0, none⟩) 0 0) [] :=
  ⟨rfl, .inr ⟨w.heap.size, 0, #[], rfl, Nat.le_refl _, heap_alloc_new _ _, Nat.le_refl _, by unfold maxLen; omega, rfl, rfl⟩⟩
theorem OwnB.lt {v : Value} {bs : List Int} (h : OwnB w base v bs) : ∀ k, v.ownBlock = some k → base ≤ k := fun k hk => (World.ownsRow.lt h k hk).1
theorem one_new (w : World) (x : Int) : ∀ j u, ([x].map (Value.int .u8))[j]? = some u → (w.alloc (.cells #[.int .u8 x] 5)).cell? ((⟨w.heap.size, 0, none⟩ : Addr).add j) = some u := by
  intro j u h
  cases j with
  | zero =>
    simp at h
    subst h
    rw [show (⟨w.heap.size, 0, none⟩ : Addr).add 0 = ⟨w.heap.size, 0, none⟩ from rfl, cell_of_row _ _ _ _ _ _ (heap_alloc_new w _)]
    rfl
  | succ j => simp at h
theorem InB.alloc {len cap : Nat} {bs : List Int} (h : InB w a len cap bs) (o : Obj) : InB (w.alloc o) a len cap bs := by
  rcases h with h | ⟨ad, h1, h2, h3⟩
  · exact .inl h
  · exact .inr ⟨ad, h1, h2, fun j u hu => (World.cell?_of_block (w := w) (Below.heap_alloc w _ _ (block_lt_of_cell (h3 j u hu)))).trans (h3 j u hu)⟩
def In0 (w : World) (a : Option Addr) (len cap : Nat) (bs : List Int) : Prop :=
  (len = 0 ∧ bs = []) ∨ ∃ gb off, a = some ⟨gb, off, none⟩ ∧ bs.length = len ∧ 0 < len ∧ len ≤ cap ∧ cap ≤ maxLen ∧ ∀ j, j < bs.length → w.cell? ⟨gb, off + j, none⟩ = some (.int .u8 (bs.getD j 0))
theorem In0.mono {len cap : Nat} {bs : List Int} (h : In0 w a len cap bs) (hb : Below w.heap.size w w') : In0 w' a len cap bs := by
  rcases h with h | ⟨gb, off, h1, h2, h3, h4, h5, h7⟩
  · exact .inl h
  · exact .inr ⟨gb, off, h1, h2, h3, h4, h5, fun j hj => (hb.cell (p := ⟨gb, off + j, none⟩) (block_lt_of_cell (h7 j hj))).trans (h7 j hj)⟩
theorem Zbb (g o j : Nat) : (⟨g, o, none⟩ : Addr).add j = ⟨g, o + j, none⟩ := by unfold Addr.add; split <;> simp_all
theorem In0.inB {len cap : Nat} {bs : List Int} (h : In0 w a len cap bs) (hnil : a = none → len = 0 ∧ cap = 0) : InB w a len cap bs := by
  rcases h with ⟨h1, h2⟩ | ⟨gb, off, h1, h2, h3, h4, h5, h7⟩
  · cases a with
    | none => exact .inl ⟨rfl, h1, (hnil rfl).2, h2⟩
    | some ad => exact .inr ⟨ad, rfl, by rw [h2, h1]; rfl, fun j u hu => by rw [h2] at hu; simp at hu⟩
  · refine .inr ⟨_, h1, h2, fun j u hu => ?_⟩
    have hj : j < bs.length := by have := (List.getElem?_eq_some_iff.1 hu).1; simpa using this
    rw [Zbb, h7 j hj, ← hu]
    simp [List.getElem?_eq_getElem hj]
theorem OwnB.in0 {v : Value} {bs : List Int} (h : OwnB w base v bs) : ∃ a cap, v = .slice a bs.length cap ∧ In0 w a bs.length cap bs ∧ (a = none → bs.length = 0 ∧ cap = 0) := by
  by_cases hp : 0 < bs.length
  · obtain ⟨g, cap, hv, h1, h2, h3, h4, h5⟩ := h.slice hp
    exact ⟨_, cap, hv, .inr ⟨g, 0, rfl, rfl, hp, h3, h4, fun j hj => by rw [Nat.zero_add]; exact h5 j hj⟩, fun hh => by cases hh⟩
  · have h0 : bs.length = 0 := by omega
    have hb0 : bs = [] := List.eq_nil_of_length_eq_zero h0
    obtain ⟨_, h2⟩ := h
    rcases h2 with ⟨hv, _⟩ | ⟨g, cap, cur, hv, _⟩
    · exact ⟨none, 0, by rw [hv, h0], .inl ⟨h0, hb0⟩, fun _ => ⟨h0, rfl⟩⟩
    · exact ⟨some ⟨g, 0, none⟩, cap, hv, .inl ⟨h0, hb0⟩, fun hh => by cases hh⟩
theorem Ztf {len cap : Nat} {bs : List Int} (h : In0 w a len cap bs) : (convert 29 9 (.slice a len cap)).run Tryz.prog w = .ok (.string (strOfNums bs)) w := by
  rcases h with ⟨rfl, rfl⟩ | ⟨gb, off, rfl, h2, h3, h4, h5, h7⟩
  · cases a with
    | none => exact run_convert_bytes_nil w 29 5 Tryz.underlying29 Tryz.underlying5 0 cap 9 Tryz.underlying9
    | some ad =>
      rw [run_convert_bytes_string w 29 9 5 _ 0 cap Tryz.underlying29 Tryz.underlying5 Tryz.underlying9, run_bytesToString w ad 0 cap [] (by have := run_loadCells_list (P := Tryz.prog) w ad [] (fun j v hv => by simp at hv); simpa using this)]
      rfl
  · exact run_convert_bytes_arg w 29 5 Tryz.underlying29 Tryz.underlying5 gb off len cap bs h2 (fun i hi => h7 i (by omega)) 9 Tryz.underlying9
theorem wpl_copy {w : World} {ops : Array Oper} {rest : List Oper} {o : Oper} {a : Act} {Q : Exit → Act → World → Prop} (hgd : o.guard = none) (d x : Operand)
    (ho : o.op = .call { callee := .builtin .copy, args := #[d, x], argTypes := #[29, 29] }) (v u : Value) (hd : a.eval d = v) (hx : a.eval x = u) {v' : Value} {w' : World}
    (hr : (Builtin.copy_ #[29, 29] o.type #[v, u]).run Tryz.prog w = .ok v' w') (h : wpList Tryz.prog ops Q rest (a.put o.dst v') w') : wpList Tryz.prog ops Q (o :: rest) a w := by
  refine wpList_plain hgd fun K hK => ?_
  unfold Oper.wp
  simp [execOp, ho, resolve, invoke, builtin, hd, hx, hr, Result.andThen]
  exact hK _ _ h
theorem Zq7 {w : World} {ops : Array Oper} {rest : List Oper} {o : Oper} {a : Act} {Q : Exit → Act → World → Prop} (hgd : o.guard = none) (s x : Operand)
    (ho : o.op = .call { callee := .builtin .append, args := #[s, x], argTypes := #[29, 29] }) (base : Nat) (v : Value) (bs : List Int) (hs : a.eval s = v) (hown : OwnB w base v bs)
    (ad : Option Addr) (m c : Nat) (news : List Int) (hx : a.eval x = .slice ad m c) (hin : In0 w ad m c news) (hnil : ad = none → m = 0 ∧ c = 0) (hl : news.length = m)
    (hbytes : bs.length + m ≤ 140737488355328) (hbase : base ≤ w.heap.size)
    (h : ∀ v' w', OwnB w' base v' (bs ++ news) → Below base w w' → wpList Tryz.prog ops Q rest (a.put o.dst v') w') : wpList Tryz.prog ops Q (o :: rest) a w := by
  cases ad with
  | none =>
    obtain ⟨rfl, rfl⟩ := hnil rfl
    have hn0 : news = [] := List.eq_nil_of_length_eq_zero hl
    subst hn0
    refine app_none hgd s x ho base v bs hs hown hx ?_
    exact h v w (by rw [List.append_nil]; exact hown) (Below.refl _ _)
  | some ad =>
    have hB := hin.inB hnil
    have hc : ∀ j u, (news.map (Value.int .u8))[j]? = some u → w.cell? (ad.add j) = some u := by
      rcases hB with ⟨h, _⟩ | ⟨ad', h1, _, h3⟩
      · cases h
      · cases h1; exact h3
    refine app_own hgd s x ho base v bs hs hown ad m c news hx hl hc hbytes hbase ?_
    intro v' w' o' g' _
    exact h v' w' o' ((Below.refl _ _).grown g' hbase hown.lt)
structure Ag (w0 : World) (a : Option Addr) (len cap : Nat) (bs : List Int) : Prop where
  i : In0 w0 a len cap bs
  nil : a = none → len = 0 ∧ cap = 0
  l : bs.length = len
  b : ∀ x ∈ bs, 0 ≤ x ∧ x < 256
theorem Ag.at {len cap : Nat} {bs : List Int} (h : Ag w0 a len cap bs) (hb : Below w0.heap.size w0 w) : Ag w a len cap bs := ⟨h.i.mono hb, h.nil, h.l, h.b⟩
theorem OwnB.ag {v : Value} {bs : List Int} (h : OwnB w base v bs) (hb : ∀ x ∈ bs, 0 ≤ x ∧ x < 256) : ∃ a cap, v = .slice a bs.length cap ∧ Ag w a bs.length cap bs := by
  obtain ⟨a, cap, hv, h1, h2⟩ := h.in0
  exact ⟨a, cap, hv, h1, h2, rfl, hb⟩
theorem Zp2 {xs ys : List Int} (h1 : ∀ x ∈ xs, 0 ≤ x ∧ x < 256) (h2 : ∀ x ∈ ys, 0 ≤ x ∧ x < 256) : ∀ x ∈ xs ++ ys, 0 ≤ x ∧ x < 256 := by
  intro x hx
  rcases List.mem_append.1 hx with hx | hx
  · exact h1 x hx
  · exact h2 x hx
end Go.Proofs.YtchgejomcgoaeaaGreat

/- The items of package nest as plain trees, their encodings, what is amiss with them, and what bytes begin with: plain functions. -/

namespace Go.Proofs.Ytmaajddofmahpaa
set_option linter.unusedVariables false
/-- An item. -/
inductive T where
  | mk (l : Bool) (bs : List Int) (its : List T)
instance : Inhabited T := ⟨.mk false [] []⟩
def T.l : T → Bool | .mk l _ _ => l
def T.bs : T → List Int | .mk _ bs _ => bs
def T.its : T → List T | .mk _ _ its => its
/-- How many bytes a number has. -/
def nb (n : Nat) : Nat := if h : n = 0 then 0 else 1 + nb (n / 256)
decreasing_by exact Nat.div_lt_self (Nat.pos_of_ne_zero h) (by decide)
/-- The bytes of a number, the highest first. -/
def be (n : Nat) : List Int := if h : n = 0 then [] else be (n / 256) ++ [((n % 256 : Nat) : Int)]
decreasing_by exact Nat.div_lt_self (Nat.pos_of_ne_zero h) (by decide)
theorem nb_zero : nb 0 = 0 := by rw [nb]; rfl
theorem nb_pos {n : Nat} (h : 0 < n) : nb n = 1 + nb (n / 256) := by rw [nb, dif_neg (by omega)]
theorem be_zero : be 0 = [] := by rw [be]; rfl
theorem be_pos {n : Nat} (h : 0 < n) : be n = be (n / 256) ++ [((n % 256 : Nat) : Int)] := by rw [be, dif_neg (by omega)]
theorem be_len (n : Nat) : (be n).length = nb n := by
  induction n using Nat.strongRecOn with
  | _ n ih =>
    by_cases h : n = 0
    · subst h; rw [be_zero, nb_zero]; rfl
    · rw [be_pos (by omega), nb_pos (by omega), List.length_append, ih _ (Nat.div_lt_self (by omega) (by decide))]
      simp [Nat.add_comm]
theorem nb_one {n : Nat} (h0 : 0 < n) (h : n < 256) : nb n = 1 := by rw [nb_pos h0, show n / 256 = 0 from by omega, nb_zero]
theorem nb_two {n : Nat} (h0 : 256 ≤ n) (h : n < 65536) : nb n = 2 := by rw [nb_pos (by omega), nb_one (by omega) (by omega)]
theorem nb_three {n : Nat} (h0 : 65536 ≤ n) (h : n < 16777216) : nb n = 3 := by rw [nb_pos (by omega), nb_two (by omega) (by omega)]
theorem nb_le {n : Nat} (h : n < 4294967296) : nb n ≤ 4 := by
  by_cases h0 : n = 0
  · subst h0; rw [nb_zero]; omega
  · by_cases h1 : n < 256
    · rw [nb_one (by omega) h1]; omega
    · by_cases h2 : n < 65536
      · rw [nb_two (by omega) h2]; omega
      · by_cases h3 : n < 16777216
        · rw [nb_three (by omega) h3]; omega
        · rw [nb_pos (by omega), nb_three (by omega) (by omega)]; omega
theorem nb_le3 {n : Nat} (h : n < 16777216) : nb n ≤ 3 := by
  by_cases h0 : n = 0
  · subst h0; rw [nb_zero]; omega
  · by_cases h1 : n < 256
    · rw [nb_one (by omega) h1]; omega
    · by_cases h2 : n < 65536
      · rw [nb_two (by omega) h2]; omega
      · rw [nb_three (by omega) h]; omega
theorem nb_ge {n : Nat} (h : 0 < n) : 1 ≤ nb n := by rw [nb_pos h]; omega
/-- What stands ahead of a body of n bytes. -/
def hd (base n : Nat) : List Int := if n ≤ 55 then [((base + n : Nat) : Int)] else ((base + 55 + nb n : Nat) : Int) :: be n
theorem hd_len (base n : Nat) : (hd base n).length = 1 + (if 55 < n then nb n else 0) := by
  unfold hd
  by_cases h : n ≤ 55
  · rw [if_pos h, if_neg (by omega)]; rfl
  · rw [if_neg h, if_pos (by omega), List.length_cons, be_len]; omega
/-- Is the encoding of these bytes, as a text, themselves? -/
def bare (l : Bool) (bs : List Int) : Bool := !l && (decide (bs.length = 1) && decide (bs.headD 0 < 128))
def baseOf (l : Bool) : Nat := if l then 192 else 128
mutual
/-- The encoding. -/
def enc : T → List Int
  | .mk l bs its => if bare l (bs ++ encs its) then bs ++ encs its else hd (baseOf l) (bs ++ encs its).length ++ (bs ++ encs its)
def encs : List T → List Int
  | [] => []
  | t :: r => enc t ++ encs r
end
def bodyOf (t : T) : List Int := t.bs ++ encs t.its
theorem enc_eq (l : Bool) (bs : List Int) (its : List T) : enc (.mk l bs its) = if bare l (bs ++ encs its) then bs ++ encs its else hd (baseOf l) (bs ++ encs its).length ++ (bs ++ encs its) := by rw [enc]
theorem encs_nil : encs [] = [] := by rw [encs]
theorem encs_cons (t : T) (r : List T) : encs (t :: r) = enc t ++ encs r := by rw [encs]
theorem encs_append : ∀ a b : List T, encs (a ++ b) = encs a ++ encs b
  | [], b => by rw [encs_nil]; rfl
  | t :: r, b => by rw [List.cons_append, encs_cons, encs_cons, encs_append r b, List.append_assoc]
mutual
/-- Is it a text without things, or a list without bytes, and so all in it? -/
def form : T → Bool
  | .mk l bs its => (if l then bs.isEmpty else its.isEmpty) && forms its
def forms : List T → Bool
  | [] => true
  | t :: r => form t && forms r
end
theorem form_eq (l : Bool) (bs : List Int) (its : List T) : form (.mk l bs its) = ((if l then bs.isEmpty else its.isEmpty) && forms its) := by rw [form]
theorem forms_nil : forms [] = true := by rw [forms]
theorem forms_cons (t : T) (r : List T) : forms (t :: r) = (form t && forms r) := by rw [forms]
mutual
/-- Are all bytes from 0 to 255? -/
def byt : T → Prop
  | .mk l bs its => (∀ x ∈ bs, 0 ≤ x ∧ x < 256) ∧ byts its
def byts : List T → Prop
  | [] => True
  | t :: r => byt t ∧ byts r
end
theorem byt_eq (l : Bool) (bs : List Int) (its : List T) : byt (.mk l bs its) ↔ ((∀ x ∈ bs, 0 ≤ x ∧ x < 256) ∧ byts its) := by rw [byt]
theorem byts_cons (t : T) (r : List T) : byts (t :: r) ↔ (byt t ∧ byts r) := by rw [byts]
/-- A weight. -/
def wt (l : Bool) (bs : List Int) (d : Nat) : Nat := if l && d == 0 then 0 else max bs.length 1
def wrongForm (l : Bool) (bs : List Int) (its : List T) : Bool := (l && decide (0 < bs.length)) || (!l && decide (0 < its.length))
mutual
/-- What is amiss with an item that stands in d lists, w being the weight so far: the weight behind it, and the error. -/
def wk : T → Nat → Nat → Nat × Nat
  | .mk l bs its, d, w =>
    if l && decide (8 ≤ d) then (w, 21)
    else if wrongForm l bs its then (w, 23)
    else if 16777215 < w + wt l bs d then (w + wt l bs d, 20)
    else wks its (d + 1) (w + wt l bs d)
def wks : List T → Nat → Nat → Nat × Nat
  | [], d, w => (w, 0)
  | t :: r, d, w => if (wk t d w).2 = 0 then wks r d (wk t d w).1 else wk t d w
end
theorem wk_eq (l : Bool) (bs : List Int) (its : List T) (d w : Nat) : wk (.mk l bs its) d w = if l && decide (8 ≤ d) then (w, 21) else if wrongForm l bs its then (w, 23) else if 16777215 < w + wt l bs d then (w + wt l bs d, 20) else wks its (d + 1) (w + wt l bs d) := by rw [wk]
theorem wks_nil (d w : Nat) : wks [] d w = (w, 0) := by rw [wks]
theorem wks_cons (t : T) (r : List T) (d w : Nat) : wks (t :: r) d w = if (wk t d w).2 = 0 then wks r d (wk t d w).1 else wk t d w := by rw [wks]
mutual
/-- How many bytes the encoding has. -/
def sz : T → Nat
  | .mk l bs its => if bare l bs then bs.length + szs its else 1 + (bs.length + szs its) + (if 55 < bs.length + szs its then nb (bs.length + szs its) else 0)
def szs : List T → Nat
  | [] => 0
  | t :: r => sz t + szs r
end
def szOf (l : Bool) (bs : List Int) (n : Nat) : Nat := if bare l bs then n else 1 + n + (if 55 < n then nb n else 0)
def szb (t : T) : Nat := t.bs.length + szs t.its
theorem sz_eq (l : Bool) (bs : List Int) (its : List T) : sz (.mk l bs its) = szOf l bs (bs.length + szs its) := by rw [sz]; rfl
theorem szs_nil : szs [] = 0 := by rw [szs]
theorem szs_cons (t : T) (r : List T) : szs (t :: r) = sz t + szs r := by rw [szs]
theorem szs_append : ∀ a b : List T, szs (a ++ b) = szs a + szs b
  | [], b => by rw [szs_nil]; simp
  | t :: r, b => by rw [List.cons_append, szs_cons, szs_cons, szs_append r b]; omega
/-- An induction over items. -/
theorem T.ind {p : T → Prop} (h : ∀ l bs its, (∀ t ∈ its, p t) → p (.mk l bs its)) : ∀ t, p t := by
  intro t
  refine T.rec (motive_1 := p) (motive_2 := fun its => ∀ t ∈ its, p t) (fun l bs its ih => h l bs its ih) (fun t ht => by cases ht) (fun t r ht hr => ?_) t
  intro x hx
  rcases List.mem_cons.1 hx with rfl | hx
  · exact ht
  · exact hr x hx
theorem form_text {bs : List Int} {its : List T} (h : form (.mk false bs its) = true) : its = [] := by
  rw [form_eq] at h
  cases its with
  | nil => rfl
  | cons t r => simp at h
theorem form_list {bs : List Int} {its : List T} (h : form (.mk true bs its) = true) : bs = [] ∧ forms its = true := by
  rw [form_eq] at h
  cases bs with
  | nil => simpa using h
  | cons t r => simp at h
theorem forms_mem : ∀ {its : List T}, forms its = true → ∀ t ∈ its, form t = true
  | [], _, t, ht => by cases ht
  | x :: r, h, t, ht => by
    rw [forms_cons, Bool.and_eq_true] at h
    rcases List.mem_cons.1 ht with rfl | ht
    · exact h.1
    · exact forms_mem h.2 t ht
theorem bare_app (bs : List Int) (l : Bool) (its : List T) (h : form (.mk l bs its) = true) : bare l (bs ++ encs its) = bare l bs := by
  cases l with
  | true => simp [bare]
  | false => rw [form_text h, encs_nil, List.append_nil]
theorem szs_len {its : List T} (h : ∀ t ∈ its, sz t = (enc t).length) : szs its = (encs its).length := by
  induction its with
  | nil => rw [szs_nil, encs_nil]; rfl
  | cons t r ih =>
    rw [szs_cons, encs_cons, List.length_append, h t (List.mem_cons_self ..), ih fun x hx => h x (List.mem_cons_of_mem _ hx)]
theorem sz_len : ∀ t, form t = true → sz t = (enc t).length := by
  refine T.ind fun l bs its ih h => ?_
  have hf : forms its = true := by
    cases l with
    | true => exact (form_list h).2
    | false => rw [form_text h, forms_nil]
  have hs := szs_len (its := its) fun t ht => ih t ht (forms_mem hf t ht)
  rw [sz_eq, enc_eq, bare_app _ _ _ h, szOf]
  by_cases hb : bare l bs = true
  · rw [if_pos hb, if_pos hb, hs, List.length_append]
  · rw [if_neg hb, if_neg hb, List.length_append, hd_len, List.length_append, hs]; omega
theorem szb_len {t : T} (h : form t = true) : szb t = (bodyOf t).length := by
  cases t with
  | mk l bs its =>
    have hf : forms its = true := by
      cases l with
      | true => exact (form_list h).2
      | false => rw [form_text h, forms_nil]
    show bs.length + szs its = (bs ++ encs its).length
    rw [List.length_append, szs_len fun t ht => sz_len t (forms_mem hf t ht)]
theorem wks_mem : ∀ {its : List T} {d w : Nat}, (wks its d w).2 = 0 → ∀ t ∈ its, ∃ w', (wk t d w').2 = 0
  | [], _, _, _, t, ht => by cases ht
  | x :: r, d, w, h, t, ht => by
    rw [wks_cons] at h
    by_cases h0 : (wk x d w).2 = 0
    · rw [if_pos h0] at h
      rcases List.mem_cons.1 ht with rfl | ht
      · exact ⟨w, h0⟩
      · exact wks_mem h t ht
    · rw [if_neg h0] at h; exact absurd h h0
theorem forms_of {its : List T} (h : ∀ t ∈ its, form t = true) : forms its = true := by
  induction its with
  | nil => exact forms_nil
  | cons t r ih => rw [forms_cons, h t (List.mem_cons_self ..), ih fun x hx => h x (List.mem_cons_of_mem _ hx)]; rfl
/-- What a good look says of the item. -/
theorem wk_ok {l : Bool} {bs : List Int} {its : List T} {d w : Nat} (h : (wk (.mk l bs its) d w).2 = 0) : (l = true → d < 8) ∧ wrongForm l bs its = false ∧ w + wt l bs d ≤ 16777215 ∧ wk (.mk l bs its) d w = wks its (d + 1) (w + wt l bs d) := by
  rw [wk_eq] at h ⊢
  by_cases h1 : (l && decide (8 ≤ d)) = true
  · rw [if_pos h1] at h; cases h
  · rw [if_neg h1] at h ⊢
    by_cases h2 : wrongForm l bs its = true
    · rw [if_pos h2] at h; cases h
    · rw [if_neg h2] at h ⊢
      by_cases h3 : 16777215 < w + wt l bs d
      · rw [if_pos h3] at h; cases h
      · rw [if_neg h3] at h ⊢
        refine ⟨fun hl => ?_, by simpa using h2, by omega, rfl⟩
        subst hl
        simp at h1
        omega
theorem wrong_false {l : Bool} {bs : List Int} {its : List T} (h : wrongForm l bs its = false) : (if l then bs.isEmpty else its.isEmpty) = true := by
  cases l with
  | true => cases bs <;> simp_all [wrongForm]
  | false => cases its <;> simp_all [wrongForm]
theorem wk_form : ∀ t, ∀ d w, (wk t d w).2 = 0 → form t = true := by
  refine T.ind fun l bs its ih d w h => ?_
  obtain ⟨_, h2, _, h4⟩ := wk_ok h
  rw [h4] at h
  rw [form_eq, wrong_false h2, Bool.true_and]
  exact forms_of fun t ht => let ⟨w', hw⟩ := wks_mem h t ht; ih t ht _ _ hw
/-- The weights bound the sizes. -/
theorem wks_le {its : List T} (ih : ∀ t ∈ its, ∀ d w, 0 < d → (wk t d w).2 = 0 → w ≤ (wk t d w).1 ∧ (wk t d w).1 ≤ 16777215 + w ∧ sz t ≤ 10 * ((wk t d w).1 - w) ∧ (w ≤ 16777215 → (wk t d w).1 ≤ 16777215)) :
    ∀ d w, 0 < d → (wks its d w).2 = 0 → w ≤ (wks its d w).1 ∧ szs its ≤ 10 * ((wks its d w).1 - w) ∧ (w ≤ 16777215 → (wks its d w).1 ≤ 16777215) := by
  induction its with
  | nil => intro d w _ _; rw [wks_nil, szs_nil]; exact ⟨Nat.le_refl _, by simp, fun h => h⟩
  | cons t r ihr =>
    intro d w hd h
    rw [wks_cons] at h ⊢
    by_cases h0 : (wk t d w).2 = 0
    · rw [if_pos h0] at h ⊢
      obtain ⟨a1, _, a2, a3⟩ := ih t (List.mem_cons_self ..) d w hd h0
      obtain ⟨b1, b2, b3⟩ := ihr (fun x hx => ih x (List.mem_cons_of_mem _ hx)) d _ hd h
      rw [szs_cons]
      exact ⟨by omega, by omega, fun hw => b3 (a3 hw)⟩
    · rw [if_neg h0] at h; exact absurd h h0
theorem wt_pos {l : Bool} {bs : List Int} {d : Nat} (h : 0 < d) : wt l bs d = max bs.length 1 := by
  unfold wt
  rw [if_neg]
  simp
  omega
theorem szOf_le (l : Bool) (bs : List Int) (n : Nat) (h : n < 4294967296) : szOf l bs n ≤ n + 5 := by
  unfold szOf
  split
  · omega
  · split
    · have := nb_le h; omega
    · omega
theorem wk_le : ∀ t, ∀ d w, 0 < d → (wk t d w).2 = 0 → w ≤ (wk t d w).1 ∧ (wk t d w).1 ≤ 16777215 + w ∧ sz t ≤ 10 * ((wk t d w).1 - w) ∧ (w ≤ 16777215 → (wk t d w).1 ≤ 16777215) := by
  refine T.ind fun l bs its ih d w hd h => ?_
  obtain ⟨_, h2, h3, h4⟩ := wk_ok h
  rw [h4] at h ⊢
  obtain ⟨b1, b2, b3⟩ := wks_le ih (d + 1) _ (by omega) h
  have b4 := b3 h3
  rw [wt_pos hd] at *
  have hf := wrong_false h2
  rw [sz_eq]
  cases l with
  | true =>
    have : bs = [] := by simpa using hf
    subst this
    have hx : (([] : List Int).length + szs its) = szs its := by simp
    rw [hx]
    have hl : max ([] : List Int).length 1 = 1 := by simp
    rw [hl] at b1 b2 b3 b4 h3 ⊢
    have := szOf_le true [] (szs its) (by omega)
    exact ⟨by omega, by omega, by omega, fun _ => b4⟩
  | false =>
    have : its = [] := by simpa using hf
    subst this
    rw [szs_nil]
    have := szOf_le false bs bs.length (by omega)
    rw [wks_nil] at *
    exact ⟨by show w ≤ w + _; omega, by show w + _ ≤ _; omega, by show szOf false bs bs.length ≤ 10 * (w + max bs.length 1 - w); omega, fun _ => h3⟩
theorem wks_append : ∀ (a b : List T) (d w : Nat), wks (a ++ b) d w = if (wks a d w).2 = 0 then wks b d (wks a d w).1 else wks a d w
  | [], b, d, w => by rw [wks_nil]; rfl
  | t :: r, b, d, w => by
    rw [List.cons_append, wks_cons, wks_cons]
    by_cases h : (wk t d w).2 = 0
    · rw [if_pos h, if_pos h, wks_append r b]
    · rw [if_neg h, if_neg h, if_neg h]
theorem take_succ_get {α : Type} {l : List α} {k : Nat} {t : α} (h : l[k]? = some t) : l.take (k + 1) = l.take k ++ [t] := by
  rw [List.take_add_one, h]; rfl
theorem split_get {α : Type} {l : List α} {k : Nat} {t : α} (h : l[k]? = some t) : l = l.take k ++ t :: l.drop (k + 1) := by
  obtain ⟨hk, e⟩ := List.getElem?_eq_some_iff.1 h
  rw [← e]
  simp
/-- One thing more. -/
theorem wks_more {its : List T} {k d w W : Nat} {t : T} (h : its[k]? = some t) (h0 : wks (its.take k) d w = (W, 0)) (h1 : (wk t d W).2 = 0) : wks (its.take (k + 1)) d w = ((wk t d W).1, 0) := by
  rw [take_succ_get h, wks_append, h0, if_pos rfl, wks_cons, if_pos h1, wks_nil]
theorem wks_fail {its : List T} {k d w W : Nat} {t : T} (h : its[k]? = some t) (h0 : wks (its.take k) d w = (W, 0)) (h1 : (wk t d W).2 ≠ 0) : wks its d w = wk t d W := by
  rw [split_get h, wks_append, h0, if_pos rfl, wks_cons, if_neg h1]
theorem szs_more {its : List T} {k : Nat} {t : T} (h : its[k]? = some t) : szs (its.take (k + 1)) = szs (its.take k) + sz t := by
  rw [take_succ_get h, szs_append, szs_cons, szs_nil]
  rfl
/-- What goes before a good look of some things is bounded. -/
theorem wks_bound {its : List T} {d w W : Nat} (hd : 0 < d) (hw : w ≤ 16777215) (h : wks its d w = (W, 0)) : w ≤ W ∧ W ≤ 16777215 ∧ szs its ≤ 10 * (W - w) := by
  obtain ⟨h1, h2, h3⟩ := wks_le (its := its) (fun t _ => wk_le t) d w hd (by rw [h])
  rw [h] at h1 h2 h3
  exact ⟨h1, h3 hw, h2⟩
theorem wk_bound {t : T} {d w : Nat} (hd : 0 < d) (hw : w ≤ 16777215) (h : (wk t d w).2 = 0) : w ≤ (wk t d w).1 ∧ (wk t d w).1 ≤ 16777215 ∧ sz t ≤ 10 * ((wk t d w).1 - w) := by
  obtain ⟨h1, _, h2, h3⟩ := wk_le t d w hd h
  exact ⟨h1, h3 hw, h2⟩
theorem szOf_ge (l : Bool) (bs : List Int) (n : Nat) : n ≤ szOf l bs n := by unfold szOf; split <;> omega
theorem sz_szb (t : T) : sz t = szOf t.l t.bs (szb t) := by
  cases t with
  | mk l bs its => exact sz_eq l bs its
end Go.Proofs.Ytmaajddofmahpaa
/- What bytes begin with: plain functions. -/
namespace Go.Proofs.Ytmaajddofmahpaa
set_option linter.unusedVariables false
/-- The number that bytes tell, the highest first. -/
def val (b : List Int) : Nat := b.foldl (fun n x => n * 256 + x.toNat) 0
theorem val_snoc (b : List Int) (x : Int) : val (b ++ [x]) = val b * 256 + x.toNat := by simp [val]
/-- A length that stands in c bytes: it, and the error. -/
def lenIn (b : List Int) (c : Nat) : Nat × Nat :=
  if 3 < c then (0, 23) else if b.length < c then (0, 22) else if b.headD 0 = 0 ∨ val (b.take c) ≤ 55 then (0, 23) else (val (b.take c), 0)
inductive HR where
  | bad (e : Nat)
  | ok (f t : Nat)
def nOf (c : Int) : Nat := (c - (if 192 ≤ c then 192 else 128)).toNat
/-- From where to where the body stands of the item that bytes begin with; deep: a list may not stand here. -/
def hdr (deep : Bool) (b : List Int) : HR :=
  match b with
  | [] => .bad 22
  | c :: r =>
    if 192 ≤ c ∧ deep = true then .bad 21
    else if c < 128 then .ok 0 1
    else if 55 < nOf c then
      if (lenIn r (nOf c - 55)).2 ≠ 0 then .bad (lenIn r (nOf c - 55)).2
      else if b.length - (1 + (nOf c - 55)) < (lenIn r (nOf c - 55)).1 then .bad 22
      else .ok (1 + (nOf c - 55)) (1 + (nOf c - 55) + (lenIn r (nOf c - 55)).1)
    else if b.length - 1 < nOf c then .bad 22 else .ok 1 (1 + nOf c)
inductive R where
  | bad (e : Nat)
  | ok (t : T) (n : Nat)
inductive RL where
  | bad (e : Nat)
  | ok (ts : List T)
/-- All items of a body. -/
def rdAll (f : List Int → R) : Nat → List Int → RL
  | _, [] => .ok []
  | 0, _ :: _ => .bad 0
  | n + 1, x :: b => match f (x :: b) with
    | .bad e => .bad e
    | .ok t m => match rdAll f n ((x :: b).drop m) with
      | .bad e => .bad e
      | .ok ts => .ok (t :: ts)
/-- The item that bytes begin with. -/
def rd1 (g : List Int → R) (deep : Bool) (b : List Int) : R :=
  match hdr deep b with
  | .bad e => .bad e
  | .ok f t =>
    if b.headD 0 < 192 then (if f = 1 ∧ t = 2 ∧ b.getD 1 0 < 128 then .bad 23 else .ok (.mk false ((b.take t).drop f) []) t)
    else match rdAll g ((b.take t).drop f).length ((b.take t).drop f) with
      | .bad e => .bad e
      | .ok ts => .ok (.mk true [] ts) t
def rd : Nat → List Int → R
  | 0 => rd1 (fun _ => .bad 21) true
  | k + 1 => rd1 (rd k) false
theorem rdAll_nil (f : List Int → R) (n : Nat) : rdAll f n [] = .ok [] := by cases n <;> rfl
theorem rdAll_ok {f : List Int → R} {n m : Nat} {t : T} {b : List Int} (hb : b ≠ []) (h : f b = .ok t m) : rdAll f (n + 1) b = match rdAll f n (b.drop m) with | .bad e => .bad e | .ok ts => .ok (t :: ts) := by
  cases b with
  | nil => exact absurd rfl hb
  | cons x b => rw [rdAll, h]
end Go.Proofs.Ytmaajddofmahpaa

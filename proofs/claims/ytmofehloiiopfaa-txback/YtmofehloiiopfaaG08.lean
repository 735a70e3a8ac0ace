/- What is written is read as it was; of an encoding no shorter piece is one: plain laws. -/
import Derived.Test.YtmofehloiiopfaaG04
import Derived.Test.YtmofehloiiopfaaG07
namespace Go.Proofs.Ytmofehloiiopfaa
set_option linter.unusedVariables false
theorem val_be (n : Nat) : val (be n) = n := by
  induction n using Nat.strongRecOn with
  | _ n ih =>
    by_cases h : n = 0
    · subst h; rw [be_zero]; rfl
    · rw [be_pos (by omega), val_snoc, ih _ (Nat.div_lt_self (by omega) (by decide))]
      omega
theorem be_ne {n : Nat} (h : 0 < n) : be n ≠ [] := by rw [be_pos h]; simp
theorem be_head (n : Nat) : 0 < n → (be n).headD 0 ≠ 0 := by
  induction n using Nat.strongRecOn with
  | _ n ih =>
    intro h
    rw [be_pos h]
    by_cases h0 : n / 256 = 0
    · rw [h0, be_zero]
      show ((n % 256 : Nat) : Int) ≠ 0
      omega
    · have h1 := ih (n / 256) (Nat.div_lt_self h (by decide)) (by omega)
      have h2 := be_ne (n := n / 256) (by omega)
      cases hd : be (n / 256) with
      | nil => exact absurd hd h2
      | cons x r => rw [hd] at h1; exact h1
theorem head_app {a b : List Int} (h : a ≠ []) : (a ++ b).headD 0 = a.headD 0 := by
  cases a with
  | nil => exact absurd rfl h
  | cons x r => rfl
theorem lenIn_be {n : Nat} (h : 55 < n) (h2 : n < 16777216) (r : List Int) : lenIn (be n ++ r) (nb n) = (n, 0) := by
  have h3 := nb_le3 h2
  have e : (be n ++ r).take (nb n) = be n := by rw [← be_len, List.take_left]
  unfold lenIn
  rw [if_neg (by omega), if_neg (by rw [List.length_append, be_len]; omega), e, val_be, head_app (be_ne (by omega)), if_neg]
  rintro (h4 | h4)
  · exact be_head n (by omega) h4
  · omega
theorem nOf_base {base n : Nat} (hb : base = 128 ∨ base = 192) (hn : n ≤ 63) (h : base = 128 → n < 64) : nOf ((base + n : Nat) : Int) = n := by
  unfold nOf
  rcases hb with rfl | rfl
  · split <;> omega
  · split <;> omega
/-- A head is read as it was written. -/
theorem hdr_hd {deep : Bool} {base : Nat} (hb : base = 128 ∨ base = 192) (hdp : base = 192 → deep = false) (body more : List Int) (hl : body.length ≤ 16777215) :
    hdr deep (hd base body.length ++ (body ++ more)) = .ok (hd base body.length).length ((hd base body.length).length + body.length) := by
  unfold hd
  by_cases h5 : body.length ≤ 55
  · rw [if_pos h5]
    have hn := nOf_base (n := body.length) hb (by omega) (by omega)
    show hdr deep (((base + body.length : Nat) : Int) :: (body ++ more)) = _
    unfold hdr
    simp only
    rw [if_neg (by rintro ⟨h1, h2⟩; rcases hb with rfl | rfl; omega; rw [hdp rfl] at h2; cases h2), if_neg (by rcases hb with rfl | rfl <;> omega), hn, if_neg (by omega), if_neg (by simp only [List.length_cons, List.length_append]; omega)]
    rfl
  · rw [if_neg h5]
    have h3 := nb_le3 (n := body.length) (by omega)
    have h1 := nb_ge (n := body.length) (by omega)
    have hn := nOf_base (n := 55 + nb body.length) hb (by omega) (by omega)
    rw [show base + (55 + nb body.length) = base + 55 + nb body.length from by omega] at hn
    show hdr deep (((base + 55 + nb body.length : Nat) : Int) :: (be body.length ++ (body ++ more))) = _
    unfold hdr
    simp only
    rw [if_neg (by rintro ⟨h1, h2⟩; rcases hb with rfl | rfl; omega; rw [hdp rfl] at h2; cases h2), if_neg (by rcases hb with rfl | rfl <;> omega), hn, if_pos (by omega), show 55 + nb body.length - 55 = nb body.length from by omega, lenIn_be (by omega) (by omega)]
    simp only
    rw [if_neg (by simp), if_neg (by simp only [List.length_cons, List.length_append, be_len]; omega)]
    simp only [List.length_cons, be_len]
    congr 1 <;> omega
theorem hd_pos (base n : Nat) : 1 ≤ (hd base n).length := by rw [hd_len]; omega
theorem enc_pos (t : T) : 1 ≤ (enc t).length := by
  obtain ⟨l, bs, its⟩ := t
  rw [enc_eq]
  split
  · rename_i h
    unfold bare at h
    simp only [Bool.and_eq_true, decide_eq_true_eq] at h
    have := h.2.1
    omega
  · rw [List.length_append]
    have := hd_pos (baseOf l) (bs ++ encs its).length
    omega
theorem body_le_enc (t : T) : (bodyOf t).length ≤ (enc t).length := by
  obtain ⟨l, bs, its⟩ := t
  show (bs ++ encs its).length ≤ _
  rw [enc_eq]
  split
  · exact Nat.le_refl _
  · exact Nat.le_trans (Nat.le_add_left _ _) (Nat.le_of_eq List.length_append.symm)
theorem cut_body (h body more : List Int) : ((h ++ (body ++ more)).take (h.length + body.length)).drop h.length = body := by
  rw [← List.append_assoc, List.take_left' (by rw [List.length_append]), List.drop_left]
theorem hd_head {base : Nat} (hb : base = 128 ∨ base = 192) {n : Nat} (hn : n < 16777216) (r : List Int) : (hd base n ++ r).headD 0 < 192 ↔ base = 128 := by
  have h3 := nb_le3 hn
  unfold hd
  split
  · show ((base + n : Nat) : Int) < 192 ↔ _
    rcases hb with rfl | rfl <;> omega
  · show ((base + 55 + nb n : Nat) : Int) < 192 ↔ _
    rcases hb with rfl | rfl <;> omega
theorem rd1_text (g : List Int → R) (deep : Bool) (bs more : List Int) (hl : bs.length ≤ 16777215) : rd1 g deep (enc (.mk false bs []) ++ more) = .ok (.mk false bs []) (enc (.mk false bs [])).length := by
  rw [enc_eq, encs_nil, List.append_nil]
  by_cases hb : bare false bs = true
  · rw [if_pos hb]
    unfold bare at hb
    simp only [Bool.not_false, Bool.true_and, Bool.and_eq_true, decide_eq_true_eq] at hb
    match bs, hb with
    | [x], ⟨_, h2⟩ =>
      have h2' : x < 128 := h2
      show rd1 g deep (x :: more) = _
      have e : hdr deep (x :: more) = .ok 0 1 := by
        unfold hdr
        simp only
        rw [if_neg (by omega), if_pos h2']
      unfold rd1
      rw [e]
      simp only
      rw [if_pos (show (x :: more).headD 0 < 192 by show x < 192; omega), if_neg (by simp)]
      rfl
  · rw [if_neg hb, baseOf, if_neg (by simp), List.append_assoc]
    have e := hdr_hd (deep := deep) (base := 128) (.inl rfl) (fun h => by cases h) bs more hl
    unfold rd1
    rw [e]
    simp only
    have hh : (hd 128 bs.length ++ (bs ++ more)).headD 0 < 192 := (hd_head (base := 128) (Or.inl rfl) (n := bs.length) (by omega) (bs ++ more)).2 rfl
    rw [if_pos hh, cut_body, List.length_append, if_neg]
    rintro ⟨h1, h2, h3⟩
    apply hb
    have hn1 : bs.length = 1 := by omega
    have h5 : hd 128 bs.length = [((128 + bs.length : Nat) : Int)] := by unfold hd; rw [if_pos (by omega)]
    rw [h5] at h3
    clear hh e
    obtain ⟨x, rfl⟩ := List.length_eq_one_iff.1 hn1
    have h3' : x < 128 := h3
    unfold bare
    simp [h3']
theorem rdAll_encs {g : List Int → R} : ∀ (its : List T) (fuel : Nat), (encs its).length ≤ fuel → (∀ t ∈ its, ∀ more, g (enc t ++ more) = .ok t (enc t).length) → rdAll g fuel (encs its) = .ok its
  | [], fuel, _, _ => by rw [encs_nil, rdAll_nil]
  | t :: r, fuel, hl, h => by
    rw [encs_cons] at hl ⊢
    have h1 := enc_pos t
    rw [List.length_append] at hl
    obtain ⟨f, rfl⟩ : ∃ f, fuel = f + 1 := ⟨fuel - 1, by omega⟩
    have hne : enc t ++ encs r ≠ [] := by
      intro e
      have := congrArg List.length e
      rw [List.length_append, List.length_nil] at this
      omega
    rw [rdAll_ok hne (h t (List.mem_cons_self ..) _), List.drop_left, rdAll_encs r f (by omega) (fun u hu => h u (List.mem_cons_of_mem _ hu))]
theorem encs_mem_le : ∀ {its : List T} {t : T}, t ∈ its → (enc t).length ≤ (encs its).length
  | x :: r, t, ht => by
    rw [encs_cons, List.length_append]
    rcases List.mem_cons.1 ht with rfl | ht
    · omega
    · have := encs_mem_le ht
      omega
theorem rd_enc : ∀ t, ∀ k d w more, d + k = 8 → (wk t d w).2 = 0 → (bodyOf t).length ≤ 16777215 → rd k (enc t ++ more) = .ok t (enc t).length := by
  refine T.ind fun l bs its ih k d w more hdk h hl => ?_
  obtain ⟨h1, h2, h3, h4⟩ := wk_ok h
  have hw := wrong_false h2
  cases l with
  | false =>
    have hi : its = [] := by simpa using hw
    subst hi
    have hl2 : bs.length ≤ 16777215 := by
      have : (bs ++ encs []).length ≤ 16777215 := hl
      rwa [encs_nil, List.append_nil] at this
    cases k with
    | zero => exact rd1_text _ _ _ _ hl2
    | succ k => exact rd1_text _ _ _ _ hl2
  | true =>
    have hbs : bs = [] := by simpa using hw
    subst hbs
    have hd8 := h1 rfl
    obtain ⟨k, rfl⟩ : ∃ k', k = k' + 1 := ⟨k - 1, by omega⟩
    have hl2 : (encs its).length ≤ 16777215 := by
      have : (([] : List Int) ++ encs its).length ≤ 16777215 := hl
      rwa [List.nil_append] at this
    rw [h4] at h
    have hall : ∀ t ∈ its, ∀ more, rd k (enc t ++ more) = .ok t (enc t).length := by
      intro t ht more
      obtain ⟨w', hw'⟩ := wks_mem h t ht
      have a1 := body_le_enc t
      have a2 := encs_mem_le ht
      exact ih t ht k (d + 1) w' more (by omega) hw' (by omega)
    rw [enc_eq, List.nil_append, if_neg (by simp [bare]), baseOf, if_pos rfl, List.append_assoc]
    have e := hdr_hd (deep := false) (base := 192) (.inr rfl) (fun _ => rfl) (encs its) more hl2
    show rd1 (rd k) false _ = _
    unfold rd1
    rw [e]
    simp only
    have hh : ¬ (hd 192 (encs its).length ++ (encs its ++ more)).headD 0 < 192 := fun h => by
      have := (hd_head (base := 192) (Or.inr rfl) (n := (encs its).length) (by omega) (encs its ++ more)).1 h
      omega
    rw [if_neg hh, cut_body, rdAll_encs its _ (Nat.le_refl _) hall, List.length_append]
/-- What is encoded is decoded as it was. -/
theorem enc_rd {t : T} (h : (mP t).2 = 0) (more : List Int) : rd 8 (enc t ++ more) = .ok t (enc t).length := by
  obtain ⟨h1, h2, _⟩ := mP_ok h
  have hf := wk_form t 0 0 h1
  exact rd_enc t 8 0 0 more rfl h1 (by rw [← szb_len hf]; omega)
theorem enc_dec {t : T} (h : (mP t).2 = 0) : decP (enc t) = .ok t := by
  have := enc_rd h []
  rw [List.append_nil] at this
  unfold decP
  rw [this]
  simp only
  rw [if_neg (by omega)]
end Go.Proofs.Ytmofehloiiopfaa
/- A list of items that may be written each alone: it may be written, or is too deep: plain laws. -/
namespace Go.Proofs.Ytmofehloiiopfaa
set_option linter.unusedVariables false
def Deep (d : Nat) (t : T) : Prop := ∀ w, w + (enc t).length ≤ 16777215 → ((wk t d w).2 = 0 ∧ (wk t d w).1 ≤ w + (enc t).length) ∨ (wk t d w).2 = 21
end Go.Proofs.Ytmofehloiiopfaa
/- Words as bytes and as texts: plain functions. -/
namespace Go.Proofs.Ytmofehloiiopfaa.Wo
set_option linter.unusedVariables false
/-- How many bytes a number has. -/
def nb (n : Nat) : Nat := if h : n = 0 then 0 else 1 + nb (n / 256)
decreasing_by exact Nat.div_lt_self (Nat.pos_of_ne_zero h) (by decide)
/-- The bytes of a number, the highest first. -/
def be (n : Nat) : List Int := if h : n = 0 then [] else be (n / 256) ++ [((n % 256 : Nat) : Int)]
decreasing_by exact Nat.div_lt_self (Nat.pos_of_ne_zero h) (by decide)
theorem nb_zero : nb 0 = 0 := by rw [nb]; rfl
theorem nb_pos {n : Nat} (h : 0 < n) : nb n = 1 + nb (n / 256) := by rw [nb, dif_neg (by omega)]
theorem be_zero : be 0 = [] := by rw [be]; rfl
theorem be_pos {n : Nat} (h : 0 < n) : be n = be (n / 256) ++ [((n % 256 : Nat) : Int)] := by rw [be, dif_neg (by omega)]
theorem snoc_ind {P : List Int → Prop} (h0 : P []) (h1 : ∀ r x, P r → P (r ++ [x])) (l : List Int) : P l := by
  have : ∀ m : List Int, P m.reverse := by
    intro m
    induction m with
    | nil => exact h0
    | cons x r ih => rw [List.reverse_cons]; exact h1 _ _ ih
  have := this l.reverse
  rwa [List.reverse_reverse] at this
/-- The lowest k bytes of a number, the highest first. -/
def bek : Nat → Nat → List Int
  | 0, _ => []
  | k + 1, n => bek k (n / 256) ++ [((n % 256 : Nat) : Int)]
theorem bek_succ (k n : Nat) : bek (k + 1) n = bek k (n / 256) ++ [((n % 256 : Nat) : Int)] := rfl
theorem bek_len : ∀ k n : Nat, (bek k n).length = k
  | 0, _ => rfl
  | k + 1, n => by rw [bek_succ, List.length_append, bek_len k]; rfl
theorem bek_bd : ∀ k n : Nat, ∀ x ∈ bek k n, 0 ≤ x ∧ x < 256
  | 0, _, x, h => by cases h
  | k + 1, n, x, h => by
    rw [bek_succ] at h
    rcases List.mem_append.1 h with h | h
    · exact bek_bd k _ x h
    · have : x = ((n % 256 : Nat) : Int) := by simpa using h
      omega
theorem be_bek (n : Nat) : be n = bek (nb n) n := by
  induction n using Nat.strongRecOn with
  | _ n ih =>
    by_cases h : n = 0
    · subst h; rw [be_zero, nb_zero]; rfl
    · rw [be_pos (by omega), nb_pos (by omega), ih _ (Nat.div_lt_self (by omega) (by decide)), Nat.add_comm, bek_succ]
theorem be_len (n : Nat) : (be n).length = nb n := by rw [be_bek, bek_len]
theorem be_bd (n : Nat) : ∀ x ∈ be n, 0 ≤ x ∧ x < 256 := by rw [be_bek]; exact bek_bd _ _
theorem bek_front : ∀ k n : Nat, bek (k + 1) n = ((n / 256 ^ k % 256 : Nat) : Int) :: bek k n
  | 0, n => by rw [bek_succ]; simp [bek]
  | k + 1, n => by
    rw [bek_succ, bek_front k (n / 256), bek_succ k n, List.cons_append, Nat.div_div_eq_div_mul, Nat.pow_succ, Nat.mul_comm 256]
theorem nb_le_iff (n j : Nat) : nb n ≤ j ↔ n < 256 ^ j := by
  induction j generalizing n with
  | zero =>
    by_cases h : n = 0
    · subst h; rw [nb_zero]; decide
    · rw [nb_pos (by omega)]; simp; omega
  | succ j ih =>
    by_cases h : n = 0
    · subst h; rw [nb_zero]; exact ⟨fun _ => Nat.pow_pos (by decide), fun _ => by omega⟩
    · rw [nb_pos (by omega), show 1 + nb (n / 256) ≤ j + 1 ↔ nb (n / 256) ≤ j from by omega, ih, Nat.pow_succ]
      exact Nat.div_lt_iff_lt_mul (by decide)
theorem nb8 {n : Nat} (h : n < 18446744073709551616) : nb n ≤ 8 := (nb_le_iff n 8).2 h
/-- The number that bytes make. -/
def vl (b : List Int) : Nat := b.foldl (fun a x => a * 256 + x.toNat) 0
theorem vl_snoc (b : List Int) (x : Int) : vl (b ++ [x]) = vl b * 256 + x.toNat := by unfold vl; rw [List.foldl_append]; rfl
theorem vl_bek : ∀ k n : Nat, n < 256 ^ k → vl (bek k n) = n
  | 0, n, h => by rw [Nat.pow_zero] at h; rw [show n = 0 from by omega]; rfl
  | k + 1, n, h => by
    rw [bek_succ, vl_snoc, vl_bek k _ ((Nat.div_lt_iff_lt_mul (by decide)).2 (by rw [← Nat.pow_succ]; exact h))]
    omega
theorem vl_be (n : Nat) : vl (be n) = n := by rw [be_bek]; exact vl_bek _ _ ((nb_le_iff _ _).1 (Nat.le_refl _))
theorem bek_vl (b : List Int) : (∀ x ∈ b, 0 ≤ x ∧ x < 256) → bek b.length (vl b) = b := by
  induction b using snoc_ind with
  | h0 => intro _; rfl
  | h1 r x ih =>
    intro h
    have hx := h x (by simp)
    rw [List.length_append, vl_snoc, show r.length + [x].length = r.length + 1 from rfl, bek_succ]
    rw [show (vl r * 256 + x.toNat) / 256 = vl r from by omega, show ((vl r * 256 + x.toNat) % 256 : Nat) = x.toNat from by omega, ih (fun y hy => h y (by simp [hy]))]
    rw [show ((x.toNat : Nat) : Int) = x from by omega]
theorem vl_lt (b : List Int) : (∀ x ∈ b, 0 ≤ x ∧ x < 256) → vl b < 256 ^ b.length := by
  induction b using snoc_ind with
  | h0 => intro _; decide
  | h1 r x ih =>
    intro h
    have hx := h x (by simp)
    have hr := ih (fun y hy => h y (by simp [hy]))
    rw [List.length_append, vl_snoc, show r.length + [x].length = r.length + 1 from rfl, Nat.pow_succ]
    omega
/-- Bytes are those of their number just if no 0 stands ahead. -/
theorem be_vl (b : List Int) (h : ∀ x ∈ b, 0 ≤ x ∧ x < 256) : be (vl b) = b ↔ ¬ (0 < b.length ∧ b.getD 0 0 = 0) := by
  constructor
  · rintro e ⟨h1, h2⟩
    obtain ⟨n, hn⟩ : ∃ n, vl b = n := ⟨_, rfl⟩
    rw [hn] at e
    subst e
    rw [be_len] at h1
    obtain ⟨k, hk⟩ : ∃ k, nb n = k + 1 := ⟨nb n - 1, by omega⟩
    rw [be_bek, hk, bek_front] at h2
    have a1 := (nb_le_iff n (k + 1)).1 (by omega)
    have a2 : ¬ n < 256 ^ k := fun h => by have := (nb_le_iff n k).2 h; omega
    have a3 : n / 256 ^ k < 256 := (Nat.div_lt_iff_lt_mul (Nat.pow_pos (by decide))).2 (by rw [Nat.mul_comm, ← Nat.pow_succ]; exact a1)
    have a4 : 0 < n / 256 ^ k := Nat.div_pos (by omega) (Nat.pow_pos (by decide))
    rw [List.getD_cons_zero] at h2
    generalize n / 256 ^ k = q at *
    omega
  · intro hh
    by_cases h0 : b.length = 0
    · rw [List.eq_nil_of_length_eq_zero h0]; exact be_zero
    · have hnb : nb (vl b) = b.length := by
        refine Nat.le_antisymm ((nb_le_iff _ _).2 (vl_lt b h)) (Nat.le_of_not_lt fun hlt => hh ⟨by omega, ?_⟩)
        obtain ⟨k, hk⟩ : ∃ k, b.length = k + 1 := ⟨b.length - 1, by omega⟩
        have a1 := (nb_le_iff (vl b) k).1 (by omega)
        have e := bek_vl b h
        rw [hk, bek_front, Nat.div_eq_of_lt a1] at e
        rw [← e]
        rfl
      rw [be_bek, hnb, bek_vl b h]
/-- The digits of a number. -/
def dg (n : Nat) : List Int := if h : n = 0 then [] else dg (n / 10) ++ [((48 + n % 10 : Nat) : Int)]
decreasing_by exact Nat.div_lt_self (Nat.pos_of_ne_zero h) (by decide)
/-- The text of a number. -/
def pr (n : Nat) : List Int := if n = 0 then [48] else dg n
def digits (s : List Int) : Prop := ∀ x ∈ s, 48 ≤ x ∧ x ≤ 57
/-- The number that digits make. -/
def dvl (s : List Int) : Nat := s.foldl (fun a x => a * 10 + (x - 48).toNat) 0
/-- A text that a number has. -/
def good (s : List Int) : Prop := s ≠ [] ∧ digits s ∧ ¬ (1 < s.length ∧ s.getD 0 0 = 48)
/-- What a text is read as. -/
def ps (s : List Int) : Nat × Bool := if pr (dvl s) = s ∧ dvl s < 18446744073709551616 then (dvl s, true) else (0, false)
theorem vl_take {s : List Int} {j : Nat} (hj : j < s.length) : vl (s.take (j + 1)) = vl (s.take j) * 256 + (s.getD j 0).toNat := by
  rw [List.take_add_one, List.getElem?_eq_getElem hj]
  simp only [Option.toList_some, vl_snoc, List.getD, List.getElem?_eq_getElem hj, Option.getD_some]
end Go.Proofs.Ytmofehloiiopfaa.Wo

/- What read, First and Decode answer. -/
import Derived.Test.YtmaajddofmahpaaG10
import Derived.Test.YtmaajddofmahpaaG06
namespace Go.Proofs.Ytmaajddofmahpaa
open Go.RowKit
set_option linter.unusedVariables false
set_option maxRecDepth 100000
inductive RT where
  | bad (e : Nat)
  | ok (t : T)
/-- What Decode tells. -/
def decP (b : List Int) : RT := match rd 8 b with
  | .bad e => .bad e
  | .ok t n => if n < b.length then .bad 24 else .ok t
def DecPost (w : World) (r : RT) : Ending → World → Prop := fun e w' => Below w.heap.size w w' ∧
  match r with
  | .bad er => e = .returned (.tuple #[.agg #[.bool false, .slice none 0 0, .slice none 0 0], .int .i64 (er : Nat)]) ∧ er ≠ 0
  | .ok t => ∃ y : V, e = .returned (.tuple #[.agg #[.bool y.l, .slice y.ba y.bn y.bc, .slice y.ia y.m y.ic], .int .i64 0]) ∧ LiesP (fun b => w.heap.size ≤ b) w' t y
/-- Any world of which something holds, in the place of one. -/
theorem gen_w {W : World} {p q : World → Prop} (F : q W) (h : ∀ v, q v → p v) : p W := h W F
/-- The result's block, while a call goes on. -/
structure Rb (w v : World) : Prop where
  row : v.heap[w.heap.size]? = some (.cells #[.bool false, .slice none 0 0, .slice none 0 0] 46)
  bel : Below w.heap.size w v
end Go.Proofs.Ytmaajddofmahpaa
/- What is written is read as it was; of an encoding no shorter piece is one: plain laws. -/
namespace Go.Proofs.Ytmaajddofmahpaa
set_option linter.unusedVariables false
theorem val_be (n : Nat) : val (be n) = n := by
  induction n using Nat.strongRecOn with
  | _ n ih =>
    by_cases h : n = 0
    · subst h; rw [be_zero]; rfl
    · rw [be_pos (by omega), val_snoc, ih _ (Nat.div_lt_self (by omega) (by decide))]
      omega
theorem be_ne {n : Nat} (h : 0 < n) : be n ≠ [] := by rw [be_pos h]; simp
theorem be_head (n : Nat) : 0 < n → (be n).headD 0 ≠ 0 := by
  induction n using Nat.strongRecOn with
  | _ n ih =>
    intro h
    rw [be_pos h]
    by_cases h0 : n / 256 = 0
    · rw [h0, be_zero]
      show ((n % 256 : Nat) : Int) ≠ 0
      omega
    · have h1 := ih (n / 256) (Nat.div_lt_self h (by decide)) (by omega)
      have h2 := be_ne (n := n / 256) (by omega)
      cases hd : be (n / 256) with
      | nil => exact absurd hd h2
      | cons x r => rw [hd] at h1; exact h1
theorem head_app {a b : List Int} (h : a ≠ []) : (a ++ b).headD 0 = a.headD 0 := by
  cases a with
  | nil => exact absurd rfl h
  | cons x r => rfl
theorem lenIn_be {n : Nat} (h : 55 < n) (h2 : n < 16777216) (r : List Int) : lenIn (be n ++ r) (nb n) = (n, 0) := by
  have h3 := nb_le3 h2
  have e : (be n ++ r).take (nb n) = be n := by rw [← be_len, List.take_left]
  unfold lenIn
  rw [if_neg (by omega), if_neg (by rw [List.length_append, be_len]; omega), e, val_be, head_app (be_ne (by omega)), if_neg]
  rintro (h4 | h4)
  · exact be_head n (by omega) h4
  · omega
theorem nOf_base {base n : Nat} (hb : base = 128 ∨ base = 192) (hn : n ≤ 63) (h : base = 128 → n < 64) : nOf ((base + n : Nat) : Int) = n := by
  unfold nOf
  rcases hb with rfl | rfl
  · split <;> omega
  · split <;> omega
/-- A head is read as it was written. -/
theorem hdr_hd {deep : Bool} {base : Nat} (hb : base = 128 ∨ base = 192) (hdp : base = 192 → deep = false) (body more : List Int) (hl : body.length ≤ 16777215) :
    hdr deep (hd base body.length ++ (body ++ more)) = .ok (hd base body.length).length ((hd base body.length).length + body.length) := by
  unfold hd
  by_cases h5 : body.length ≤ 55
  · rw [if_pos h5]
    have hn := nOf_base (n := body.length) hb (by omega) (by omega)
    show hdr deep (((base + body.length : Nat) : Int) :: (body ++ more)) = _
    unfold hdr
    simp only
    rw [if_neg (by rintro ⟨h1, h2⟩; rcases hb with rfl | rfl; omega; rw [hdp rfl] at h2; cases h2), if_neg (by rcases hb with rfl | rfl <;> omega), hn, if_neg (by omega), if_neg (by simp only [List.length_cons, List.length_append]; omega)]
    rfl
  · rw [if_neg h5]
    have h3 := nb_le3 (n := body.length) (by omega)
    have h1 := nb_ge (n := body.length) (by omega)
    have hn := nOf_base (n := 55 + nb body.length) hb (by omega) (by omega)
    rw [show base + (55 + nb body.length) = base + 55 + nb body.length from by omega] at hn
    show hdr deep (((base + 55 + nb body.length : Nat) : Int) :: (be body.length ++ (body ++ more))) = _
    unfold hdr
    simp only
    rw [if_neg (by rintro ⟨h1, h2⟩; rcases hb with rfl | rfl; omega; rw [hdp rfl] at h2; cases h2), if_neg (by rcases hb with rfl | rfl <;> omega), hn, if_pos (by omega), show 55 + nb body.length - 55 = nb body.length from by omega, lenIn_be (by omega) (by omega)]
    simp only
    rw [if_neg (by simp), if_neg (by simp only [List.length_cons, List.length_append, be_len]; omega)]
    simp only [List.length_cons, be_len]
    congr 1 <;> omega
theorem hd_pos (base n : Nat) : 1 ≤ (hd base n).length := by rw [hd_len]; omega
theorem enc_pos (t : T) : 1 ≤ (enc t).length := by
  obtain ⟨l, bs, its⟩ := t
  rw [enc_eq]
  split
  · rename_i h
    unfold bare at h
    simp only [Bool.and_eq_true, decide_eq_true_eq] at h
    have := h.2.1
    omega
  · rw [List.length_append]
    have := hd_pos (baseOf l) (bs ++ encs its).length
    omega
theorem body_le_enc (t : T) : (bodyOf t).length ≤ (enc t).length := by
  obtain ⟨l, bs, its⟩ := t
  show (bs ++ encs its).length ≤ _
  rw [enc_eq]
  split
  · exact Nat.le_refl _
  · exact Nat.le_trans (Nat.le_add_left _ _) (Nat.le_of_eq List.length_append.symm)
theorem cut_body (h body more : List Int) : ((h ++ (body ++ more)).take (h.length + body.length)).drop h.length = body := by
  rw [← List.append_assoc, List.take_left' (by rw [List.length_append]), List.drop_left]
theorem hd_head {base : Nat} (hb : base = 128 ∨ base = 192) {n : Nat} (hn : n < 16777216) (r : List Int) : (hd base n ++ r).headD 0 < 192 ↔ base = 128 := by
  have h3 := nb_le3 hn
  unfold hd
  split
  · show ((base + n : Nat) : Int) < 192 ↔ _
    rcases hb with rfl | rfl <;> omega
  · show ((base + 55 + nb n : Nat) : Int) < 192 ↔ _
    rcases hb with rfl | rfl <;> omega
theorem rd1_text (g : List Int → R) (deep : Bool) (bs more : List Int) (hl : bs.length ≤ 16777215) : rd1 g deep (enc (.mk false bs []) ++ more) = .ok (.mk false bs []) (enc (.mk false bs [])).length := by
  rw [enc_eq, encs_nil, List.append_nil]
  by_cases hb : bare false bs = true
  · rw [if_pos hb]
    unfold bare at hb
    simp only [Bool.not_false, Bool.true_and, Bool.and_eq_true, decide_eq_true_eq] at hb
    match bs, hb with
    | [x], ⟨_, h2⟩ =>
      have h2' : x < 128 := h2
      show rd1 g deep (x :: more) = _
      have e : hdr deep (x :: more) = .ok 0 1 := by
        unfold hdr
        simp only
        rw [if_neg (by omega), if_pos h2']
      unfold rd1
      rw [e]
      simp only
      rw [if_pos (show (x :: more).headD 0 < 192 by show x < 192; omega), if_neg (by simp)]
      rfl
  · rw [if_neg hb, baseOf, if_neg (by simp), List.append_assoc]
    have e := hdr_hd (deep := deep) (base := 128) (.inl rfl) (fun h => by cases h) bs more hl
    unfold rd1
    rw [e]
    simp only
    have hh : (hd 128 bs.length ++ (bs ++ more)).headD 0 < 192 := (hd_head (base := 128) (Or.inl rfl) (n := bs.length) (by omega) (bs ++ more)).2 rfl
    rw [if_pos hh, cut_body, List.length_append, if_neg]
    rintro ⟨h1, h2, h3⟩
    apply hb
    have hn1 : bs.length = 1 := by omega
    have h5 : hd 128 bs.length = [((128 + bs.length : Nat) : Int)] := by unfold hd; rw [if_pos (by omega)]
    rw [h5] at h3
    clear hh e
    obtain ⟨x, rfl⟩ := List.length_eq_one_iff.1 hn1
    have h3' : x < 128 := h3
    unfold bare
    simp [h3']
theorem rdAll_encs {g : List Int → R} : ∀ (its : List T) (fuel : Nat), (encs its).length ≤ fuel → (∀ t ∈ its, ∀ more, g (enc t ++ more) = .ok t (enc t).length) → rdAll g fuel (encs its) = .ok its
  | [], fuel, _, _ => by rw [encs_nil, rdAll_nil]
  | t :: r, fuel, hl, h => by
    rw [encs_cons] at hl ⊢
    have h1 := enc_pos t
    rw [List.length_append] at hl
    obtain ⟨f, rfl⟩ : ∃ f, fuel = f + 1 := ⟨fuel - 1, by omega⟩
    have hne : enc t ++ encs r ≠ [] := by
      intro e
      have := congrArg List.length e
      rw [List.length_append, List.length_nil] at this
      omega
    rw [rdAll_ok hne (h t (List.mem_cons_self ..) _), List.drop_left, rdAll_encs r f (by omega) (fun u hu => h u (List.mem_cons_of_mem _ hu))]
theorem encs_mem_le : ∀ {its : List T} {t : T}, t ∈ its → (enc t).length ≤ (encs its).length
  | x :: r, t, ht => by
    rw [encs_cons, List.length_append]
    rcases List.mem_cons.1 ht with rfl | ht
    · omega
    · have := encs_mem_le ht
      omega
theorem rd_enc : ∀ t, ∀ k d w more, d + k = 8 → (wk t d w).2 = 0 → (bodyOf t).length ≤ 16777215 → rd k (enc t ++ more) = .ok t (enc t).length := by
  refine T.ind fun l bs its ih k d w more hdk h hl => ?_
  obtain ⟨h1, h2, h3, h4⟩ := wk_ok h
  have hw := wrong_false h2
  cases l with
  | false =>
    have hi : its = [] := by simpa using hw
    subst hi
    have hl2 : bs.length ≤ 16777215 := by
      have : (bs ++ encs []).length ≤ 16777215 := hl
      rwa [encs_nil, List.append_nil] at this
    cases k with
    | zero => exact rd1_text _ _ _ _ hl2
    | succ k => exact rd1_text _ _ _ _ hl2
  | true =>
    have hbs : bs = [] := by simpa using hw
    subst hbs
    have hd8 := h1 rfl
    obtain ⟨k, rfl⟩ : ∃ k', k = k' + 1 := ⟨k - 1, by omega⟩
    have hl2 : (encs its).length ≤ 16777215 := by
      have : (([] : List Int) ++ encs its).length ≤ 16777215 := hl
      rwa [List.nil_append] at this
    rw [h4] at h
    have hall : ∀ t ∈ its, ∀ more, rd k (enc t ++ more) = .ok t (enc t).length := by
      intro t ht more
      obtain ⟨w', hw'⟩ := wks_mem h t ht
      have a1 := body_le_enc t
      have a2 := encs_mem_le ht
      exact ih t ht k (d + 1) w' more (by omega) hw' (by omega)
    rw [enc_eq, List.nil_append, if_neg (by simp [bare]), baseOf, if_pos rfl, List.append_assoc]
    have e := hdr_hd (deep := false) (base := 192) (.inr rfl) (fun _ => rfl) (encs its) more hl2
    show rd1 (rd k) false _ = _
    unfold rd1
    rw [e]
    simp only
    have hh : ¬ (hd 192 (encs its).length ++ (encs its ++ more)).headD 0 < 192 := fun h => by
      have := (hd_head (base := 192) (Or.inr rfl) (n := (encs its).length) (by omega) (encs its ++ more)).1 h
      omega
    rw [if_neg hh, cut_body, rdAll_encs its _ (Nat.le_refl _) hall, List.length_append]
/-- What is encoded is decoded as it was. -/
theorem enc_rd {t : T} (h : (mP t).2 = 0) (more : List Int) : rd 8 (enc t ++ more) = .ok t (enc t).length := by
  obtain ⟨h1, h2, _⟩ := mP_ok h
  have hf := wk_form t 0 0 h1
  exact rd_enc t 8 0 0 more rfl h1 (by rw [← szb_len hf]; omega)
theorem enc_dec {t : T} (h : (mP t).2 = 0) : decP (enc t) = .ok t := by
  have := enc_rd h []
  rw [List.append_nil] at this
  unfold decP
  rw [this]
  simp only
  rw [if_neg (by omega)]
end Go.Proofs.Ytmaajddofmahpaa

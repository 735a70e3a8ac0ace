/- A list of items that may be written each alone: it may be written, or is too deep: plain laws. -/
import Derived.Test.YtkbdkenpblcofabP4
namespace Go.Proofs.Ytkbdkenpblcofab
set_option linter.unusedVariables false
def Deep (d : Nat) (t : T) : Prop := ∀ w, w + (enc t).length ≤ 16777215 → ((wk t d w).2 = 0 ∧ (wk t d w).1 ≤ w + (enc t).length) ∨ (wk t d w).2 = 21
theorem wks_deep {d : Nat} : ∀ {its : List T}, (∀ t ∈ its, Deep d t) → ∀ w, w + (encs its).length ≤ 16777215 → ((wks its d w).2 = 0 ∧ (wks its d w).1 ≤ w + (encs its).length) ∨ (wks its d w).2 = 21
  | [], _, w, _ => by rw [wks_nil]; exact .inl ⟨rfl, by simp⟩
  | t :: r, ih, w, h => by
    rw [encs_cons, List.length_append] at h ⊢
    rw [wks_cons]
    rcases ih t (List.mem_cons_self ..) w (by omega) with ⟨h1, h2⟩ | h1
    · rw [if_pos h1]
      rcases wks_deep (fun u hu => ih u (List.mem_cons_of_mem _ hu)) (wk t d w).1 (by omega) with ⟨h3, h4⟩ | h3
      · exact .inl ⟨h3, by omega⟩
      · exact .inr h3
    · rw [if_neg (by omega)]
      exact .inr h1
theorem wk_deep : ∀ t, form t = true → ∀ d, 0 < d → Deep d t := by
  refine T.ind fun l bs its ih hf d hd0 w h => ?_
  rw [wk_eq]
  cases l with
  | false =>
    have hi := form_text hf
    subst hi
    have h1 := enc_pos (.mk false bs [])
    have h2 := body_le_enc (.mk false bs [])
    have h3 : (bodyOf (.mk false bs [])).length = bs.length := by show (bs ++ encs []).length = _; rw [encs_nil, List.append_nil]
    have hwt : wt false bs d ≤ (enc (.mk false bs [])).length := wt_le (by omega) h1
    rw [if_neg (by simp), if_neg (by simp [wrongForm]), if_neg (by omega), wks_nil]
    exact .inl ⟨rfl, by show w + _ ≤ _; omega⟩
  | true =>
    obtain ⟨hb, hfs⟩ := form_list hf
    subst hb
    by_cases h8 : 8 ≤ d
    · rw [if_pos (by simpa using h8)]
      exact .inr rfl
    · have he : (enc (.mk true [] its)).length = (hd 192 (encs its).length).length + (encs its).length := by
        rw [enc_eq, List.nil_append, if_neg (by simp [bare]), baseOf, if_pos rfl, List.length_append]
      have hp := hd_pos 192 (encs its).length
      have hwt : wt true [] d ≤ 1 := wt_le (by simp) (by omega)
      rw [if_neg (by simp; omega), if_neg (by simp [wrongForm]), if_neg (by omega)]
      rcases wks_deep (d := d + 1) (its := its) (fun t ht => ih t ht (forms_mem hfs t ht) (d + 1) (by omega)) (w + wt true [] d) (by omega) with ⟨h3, h4⟩ | h3
      · exact .inl ⟨h3, by omega⟩
      · exact .inr h3
/-- A list of items that may be written each. -/
theorem list_mP {ts : List T} (h : ∀ t ∈ ts, (mP t).2 = 0) (hl : (encs ts).length ≤ 65536) : ((mP (.mk true [] ts)).2 = 0 ∧ enc (.mk true [] ts) = hd 192 (encs ts).length ++ encs ts) ∨ (mP (.mk true [] ts)).2 = 21 := by
  have hf : ∀ t ∈ ts, form t = true := fun t ht => wk_form t 0 0 (mP_ok (h t ht)).1
  have hw : wk (.mk true [] ts) 0 0 = wks ts 1 0 := by
    rw [wk_eq, if_neg (by simp), if_neg (by simp [wrongForm]), show wt true [] 0 = 0 from rfl, if_neg (by omega)]
  have he : enc (.mk true [] ts) = hd 192 (encs ts).length ++ encs ts := by
    rw [enc_eq, List.nil_append, if_neg (by simp [bare]), baseOf, if_pos rfl]
  have hs : szb (.mk true [] ts) = (encs ts).length := by
    show ([] : List Int).length + szs ts = _
    rw [szs_len fun t ht => sz_len t (hf t ht)]
    simp
  rcases wks_deep (d := 1) (its := ts) (fun t ht => wk_deep t (hf t ht) 1 (by omega)) 0 (by omega) with ⟨h1, _⟩ | h1
  · left
    refine ⟨?_, he⟩
    unfold mP
    rw [hw, if_neg (by rw [h1]; simp), if_neg (by rw [hs]; omega)]
  · right
    unfold mP
    rw [hw, if_pos (by rw [h1]; simp), h1]
theorem hd_le {base n : Nat} (h : n < 16777216) : (hd base n).length ≤ 4 := by
  rw [hd_len]
  have := nb_le3 h
  split <;> omega
theorem hd_first {n : Nat} (h : n < 16777216) (r : List Int) : 192 ≤ (hd 192 n ++ r).getD 0 0 := by
  have := nb_le3 h
  unfold hd
  split
  · show (192 : Int) ≤ ((192 + n : Nat) : Int)
    omega
  · show (192 : Int) ≤ ((192 + 55 + nb n : Nat) : Int)
    omega
end Go.Proofs.Ytkbdkenpblcofab

/- What put writes of every item. -/
import Derived.Test.YtalhnnjpjaeakabGreatG11
import Derived.Deep.OwnRows
import Derived.Laws.OwnMore
import Derived.Test.YtalhnnjpjaeakabGreatG09
namespace Go.Proofs.YtalhnnjpjaeakabGreat
open Go.RowKit
set_option linter.unusedVariables false
theorem enc_list {its : List T} : enc (.mk true [] its) = hd 192 (encs its).length ++ encs its := by rw [enc_eq, List.nil_append, if_neg (by simp [bare])]; rfl
theorem drop_get {its : List T} {j : Nat} {u : T} (h : its[j]? = some u) : encs (its.drop j) = enc u ++ encs (its.drop (j + 1)) := by
  obtain ⟨hj, e⟩ := List.getElem?_eq_some_iff.1 h
  rw [List.drop_eq_getElem_cons hj, encs_cons, e]
theorem encs_split (its : List T) (j : Nat) : encs its = encs (its.take j) ++ encs (its.drop j) := by rw [← encs_append, List.take_append_drop]
/-- What put does. -/
def PutSaid (t : T) : Prop := ∀ (x : V) (g S fin : Nat) (R : List Int) (w0 w : World), Lies w0 t x → Below w0.heap.size w0 w → w0.heap.size ≤ g → Row g w R → R.length = S → fin ≤ S → S ≤ 4611686018427387904 → (bodyOf t).length < 16777216 → (enc t).length ≤ fin →
    Calls Tryz.prog 42 #[.slice (some ⟨g, 0, none⟩) S S, .int .i64 fin, .agg #[.bool x.l, .slice x.ba x.bn x.bc, .slice x.ia x.m x.ic]] w fun e w' => e = .returned (.int .i64 (fin - (enc t).length : Nat)) ∧ Row g w' (R.take (fin - (enc t).length) ++ enc t ++ R.drop fin) ∧ Touch g w w'
theorem body_le {its : List T} {j : Nat} {u : T} (h : its[j]? = some u) : (enc u).length + (encs (its.drop (j + 1))).length ≤ (encs its).length := by
  have := congrArg List.length (encs_split its j)
  rw [drop_get h] at this
  simp only [List.length_append] at this
  omega
theorem enc_ge (t : T) : (bodyOf t).length ≤ (enc t).length := by
  cases t with
  | mk l bs its =>
    rw [enc_eq]
    show (bs ++ encs its).length ≤ _
    split <;> simp
theorem splice3 (R E F : List Int) (a len fin : Nat) (ha : a ≤ R.length) (hl : E.length = len) (hla : len ≤ a) : List.take (a - len) (R.take a ++ F ++ R.drop fin) ++ E ++ List.drop a (R.take a ++ F ++ R.drop fin) = R.take (a - len) ++ (E ++ F) ++ R.drop fin := by
  have hta : (R.take a).length = a := by rw [List.length_take]; omega
  rw [List.append_assoc (R.take a), List.take_append_of_le_length (by omega), List.take_take, Nat.min_eq_left (by omega), List.drop_append_of_le_length (by omega), List.drop_take_self]
  simp
set_option maxHeartbeats 1000000 in
theorem put_list (its : List T) (ih : ∀ u ∈ its, form u = true → PutSaid u) (hform : forms its = true) : PutSaid (.mk true [] its) := by
  intro x g S fin R w0 w hli hbel hg hR hS hfin hS2 hbody hfit
  obtain ⟨l', ba, bn, bc, ia, m, ic⟩ := x
  obtain ⟨h1, h2, h3, h4, h5, ⟨h7, h8⟩, h6⟩ := lies_eq.1 hli
  simp only at h1 h2 h3 h4 h5 h6 h7 h8 ⊢
  subst h1
  have hbody2 : (encs its).length < 16777216 := by simpa [bodyOf, T.bs, T.its] using hbody
  obtain ⟨en, hen⟩ : ∃ en, enc (.mk true [] its) = en := ⟨_, rfl⟩
  rw [hen] at hfit ⊢
  rw [enc_list] at hen
  have hle : en.length = (hd 192 (encs its).length).length + (encs its).length := by rw [← hen, List.length_append]
  have hgl := lt_of_get hR
  have HR := Hid.mk hR
  have H3 := Hid.mk h3
  have H6 := Hid.mk h6
  have HI := Hid.mk ih
  have HF := Hid.mk (forms_mem hform)
  have HEN := Hid.mk hen
  have HLE := Hid.mk hle
  have hic : ic ≤ 2 ^ 63 - 1 := h5
  clear hR h3 h6 ih hen hle hbody hli h2 hform
  go_enter Tryz.func42, Tryz.ntmps42
  go_wp2_with fail
  have hR1 : Row g (w.alloc (.cells #[.bool true, .slice ba bn bc, .slice ia m ic] 82)) R := (Below.heap_alloc _ _ _ hgl).trans HR.out
  have HR1 := Hid.mk hR1
  clear hR1
  go_loopw [8, 9] (fun p i v => ∃ k a : Nat, k ≤ m ∧ p = .int .i64 a ∧ i = .int .i64 ((k : Int) - 1) ∧ a + (encs (its.drop k)).length = fin ∧ Row g v (R.take a ++ encs (its.drop k) ++ R.drop fin) ∧ Touch g (w.alloc (.cells #[.bool true, .slice ba bn bc, .slice ia m ic] 82)) v) (fun _ i _ => (intOf i + 1).toNat)
  case atStart => exact ⟨m, fin, Nat.le_refl _, rfl, rfl, by rw [List.drop_of_length_le (by have := H3.out; omega), encs_nil]; rfl, by rw [List.drop_of_length_le (by have := H3.out; omega), encs_nil, List.append_nil, List.take_append_drop]; exact HR1.out, Touch.refl _ _⟩
  case round =>
    obtain ⟨k, a, hk, rfl, rfl, ha, hrow, ht⟩ := hrel
    have hx : wr.heap[w.heap.size]? = some (.cells #[.bool true, .slice ba bn bc, .slice ia m ic] 82) := (ht.block _ (by simp) (by omega)).trans (heap_alloc_new _ _)
    have y0 : wr.cell? ⟨w.heap.size, 0, none⟩ = some (.bool true) := by rw [cell_of_row _ _ _ _ _ _ hx]; rfl
    have y1 : wr.cell? ⟨w.heap.size, 1, none⟩ = some (.slice ba bn bc) := by rw [cell_of_row _ _ _ _ _ _ hx]; rfl
    have y2 : wr.cell? ⟨w.heap.size, 2, none⟩ = some (.slice ia m ic) := by rw [cell_of_row _ _ _ _ _ _ hx]; rfl
    clear hx
    cases k with
    | succ j =>
      have hj : j < its.length := by have := H3.out; omega
      obtain ⟨u, hu⟩ : ∃ u, its[j]? = some u := ⟨_, List.getElem?_eq_getElem hj⟩
      have hmem : u ∈ its := List.mem_of_getElem? hu
      obtain ⟨gi, off, y, hat⟩ := liesAll_at H6.out j u hu
      rw [Nat.zero_add] at hat
      have hb : Below w0.heap.size w0 wr := Touch.below (hbel.alloc hbel.size _) ht hg (by have := hbel.size; simp; omega)
      obtain ⟨rfl, a0, a1, a2, ali⟩ := hat
      have c0' := (hb.cell (p := ⟨gi, off + j * 3, none⟩) (block_lt_of_cell a0)).trans a0
      have c1' := (hb.cell (p := ⟨gi, off + j * 3 + 1, none⟩) (block_lt_of_cell a1)).trans a1
      have c2' := (hb.cell (p := ⟨gi, off + j * 3 + 2, none⟩) (block_lt_of_cell a2)).trans a2
      have hbl := body_le hu
      have henc : (enc u).length ≤ a := by have := congrArg List.length (encs_split its j); rw [drop_get hu] at this; simp only [List.length_append] at this; have := HLE.out; omega
      have haS : a ≤ R.length := by omega
      have hRl : (R.take a ++ encs (its.drop (j + 1)) ++ R.drop fin).length = S := by simp; omega
      have hcal := HI.out u hmem (HF.out u hmem) y g S a _ w0 wr ali hb hg hrow hRl (by omega) hS2 (by have := enc_ge u; omega) henc
      rw [splice3 R (enc u) _ a _ fin haS rfl henc, ← drop_get hu] at hcal
      have hdl : a - (enc u).length + (encs (its.drop j)).length = fin := by rw [drop_get hu, List.length_append]; omega
      have HCAL := Hid.mk hcal
      have HDL := Hid.mk hdl
      have HT := Hid.mk ht
      rw [show (((j + 1 : Nat) : Int) - 1) = (j : Int) from by omega]
      have hj0 : (0 : Int) ≤ j := by omega
      have hjm : (j : Int) < m := by omega
      have hjm2 : j < m := by omega
      clear hcal hdl ht hrow a0 a1 a2 ali hb hbl hRl ha
      go_wp2_with fail
      refine HCAL.out.mono ?_
      rintro e w1 ⟨rfl, hr1, ht1⟩
      have HR2 := Hid.mk hr1
      have HT2 := Hid.mk (HT.out.trans ht1)
      clear hr1 ht1
      go_wp2_with fail
      refine ⟨⟨j, a - (enc u).length, by omega, rfl, rfl, HDL.out, HR2.out, HT2.out⟩, ?_⟩
      simp [intOf]
    | zero =>
      rw [List.drop_zero] at ha hrow
      have hle := HLE.out
      have hRl : (R.take a ++ encs its ++ R.drop fin).length = S := by simp; omega
      have hcal := putHead_any g a S (encs its).length 192 _ wr hrow hRl (by omega) hS2 hbody2 (.inr rfl) (by omega)
      rw [splice3 R _ _ a _ fin (by omega) rfl (by omega), HEN.out, show a - (hd 192 (encs its).length).length = fin - en.length from by omega] at hcal
      rw [show ((192 : Nat) : Int) = 192 from rfl] at hcal
      have hfa : fin = a + (encs its).length := ha.symm
      obtain ⟨nn, hnn⟩ : ∃ nn, (encs its).length = nn := ⟨_, rfl⟩
      rw [hnn] at hcal hfa hbody2
      have HCAL := Hid.mk hcal
      have HT := Hid.mk ht
      have HFA := Hid.mk hfa
      have hfi : (fin : Int) - a = nn := by omega
      have HFI := Hid.mk hfi
      clear hcal ht hrow hle ha hRl hnn hfa hfi
      rw [show (((0 : Nat) : Int) - 1) = -1 from rfl]
      have haf : (a : Int) ≤ fin := by have := HFA.out; omega
      have hff : fin < 9223372036854775807 := by omega
      go_wp2_with fail
      rw [HFI.out]
      refine HCAL.out.mono ?_
      rintro e w1 ⟨rfl, hr1, ht1⟩
      have HR2 := Hid.mk hr1
      have HT2 := Hid.mk ((Touch.of_below ((Below.refl _ _).alloc (Nat.le_refl _) _)).trans (HT.out.trans ht1))
      clear hr1 ht1
      go_wp2_with fail
      go_ret
      exact ⟨rfl, HR2.out, HT2.out⟩
theorem put_any : ∀ t, form t = true → PutSaid t := by
  refine T.ind fun l bs its ih h => ?_
  cases l with
  | false =>
    have := form_text h
    subst this
    intro x g S fin R w0 w hli hbel hg hR hS hfin hS2 hbody hfit
    exact put_text bs x g S fin R w0 w hli hbel hg hR hS hfin hS2 (by simpa [bodyOf, T.bs, T.its, encs_nil] using hbody) hfit
  | true =>
    obtain ⟨h1, h2⟩ := form_list h
    subst h1
    exact put_list its ih h2
end Go.Proofs.YtalhnnjpjaeakabGreat
/- What Encode answers, of every item. -/
namespace Go.Proofs.YtalhnnjpjaeakabGreat
open Go.RowKit
set_option linter.unusedVariables false
/-- What Encode tells: the bytes, and the error. -/
def encP (t : T) : List Int × Nat := if (mP t).2 = 0 then (enc t, 0) else ([], (mP t).2)
theorem mP_ok {t : T} (h : (mP t).2 = 0) : (wk t 0 0).2 = 0 ∧ szb t ≤ 16777215 ∧ (mP t).1 = sz t := by
  unfold mP at *
  by_cases h1 : (wk t 0 0).2 = 0
  · rw [if_neg (by rw [h1]; simp)] at h ⊢
    by_cases h2 : 16777215 < szb t
    · rw [if_pos h2] at h; cases h
    · rw [if_neg h2]; exact ⟨h1, by omega, rfl⟩
  · rw [if_pos h1] at h; exact absurd h h1
theorem be_bounds (n : Nat) : ∀ x ∈ be n, 0 ≤ x ∧ x < 256 := by
  induction n using Nat.strongRecOn with
  | _ n ih =>
    by_cases h : n = 0
    · subst h; rw [be_zero]; intro x hx; cases hx
    · rw [be_pos (by omega)]
      intro x hx
      rcases List.mem_append.1 hx with hx | hx
      · exact ih _ (Nat.div_lt_self (by omega) (by decide)) x hx
      · simp at hx; omega
theorem hd_bounds {l : Bool} {n : Nat} (hn : n < 16777216) : ∀ x ∈ hd (baseOf l) n, 0 ≤ x ∧ x < 256 := by
  have hb : baseOf l ≤ 192 := by cases l <;> decide
  intro x hx
  unfold hd at hx
  split at hx
  · simp at hx; omega
  · rcases List.mem_cons.1 hx with rfl | hx
    · have := nb_le3 hn; omega
    · exact be_bounds n x hx
theorem encs_bounds {its : List T} (ih : ∀ t ∈ its, byt t → (bodyOf t).length < 16777216 → ∀ x ∈ enc t, 0 ≤ x ∧ x < 256) : byts its → (encs its).length < 16777216 → ∀ x ∈ encs its, 0 ≤ x ∧ x < 256 := by
  induction its with
  | nil => intro _ _ x hx; rw [encs_nil] at hx; cases hx
  | cons t r ihr =>
    intro hb hl x hx
    obtain ⟨h1, h2⟩ := (byts_cons t r).1 hb
    rw [encs_cons] at hx hl
    rw [List.length_append] at hl
    rcases List.mem_append.1 hx with hx | hx
    · exact ih t (List.mem_cons_self ..) h1 (by have := enc_ge t; omega) x hx
    · exact ihr (fun u hu => ih u (List.mem_cons_of_mem _ hu)) h2 (by omega) x hx
theorem enc_bounds : ∀ t, byt t → (bodyOf t).length < 16777216 → ∀ x ∈ enc t, 0 ≤ x ∧ x < 256 := by
  refine T.ind fun l bs its ih hb hl x hx => ?_
  obtain ⟨h1, h2⟩ := (byt_eq l bs its).1 hb
  have hl2 : (bs ++ encs its).length < 16777216 := hl
  have hbody : ∀ x ∈ bs ++ encs its, 0 ≤ x ∧ x < 256 := mem_app h1 (encs_bounds ih h2 (by rw [List.length_append] at hl2; omega))
  rw [enc_eq] at hx
  split at hx
  · exact hbody x hx
  · rcases List.mem_append.1 hx with hx | hx
    · exact hd_bounds hl2 x hx
    · exact hbody x hx
theorem encP_ok {t : T} (h : (mP t).2 = 0) : (mP t).1 = (enc t).length ∧ (bodyOf t).length < 16777216 ∧ form t = true := by
  obtain ⟨h1, h2, h3⟩ := mP_ok h
  have hf := wk_form t 0 0 h1
  rw [h3, sz_len t hf, ← szb_len hf]
  exact ⟨rfl, by omega, hf⟩
theorem enc_len_le {t : T} (hb : (bodyOf t).length < 16777216) : (enc t).length ≤ 16777220 := by
  obtain ⟨l, bs, its⟩ := t
  have hb2 : (bs ++ encs its).length < 16777216 := hb
  rw [enc_eq]
  split
  · omega
  · rw [List.length_append, hd_len]
    have := nb_le3 hb2
    split <;> omega
theorem made_bytes (n : Nat) : madeCells #[Value.int .u8 0] n = ((List.replicate n (0 : Int)).map (Value.int .u8)).toArray := by
  apply Array.ext'
  rw [toList_madeCells_one]
  simp
theorem row_ag {w : World} {g n : Nat} {bs : List Int} (h : Row g w bs) (hl : bs.length = n) (hb : ∀ x ∈ bs, 0 ≤ x ∧ x < 256) (hn : n ≤ 9223372036854775807) : Ag w (some ⟨g, 0, none⟩) n n bs := by
  refine ⟨?_, (fun h => by cases h), hl, hb⟩
  by_cases h0 : n = 0
  · exact .inl ⟨h0, List.eq_nil_of_length_eq_zero (by omega)⟩
  · exact .inr ⟨g, 0, rfl, hl, by omega, Nat.le_refl _, by unfold maxLen; omega, fun j hj => by rw [Nat.zero_add]; exact h.cell hj⟩
theorem info5b : (Tryz.prog.info? 5).map (fun i => (i.zero, i.size, i.bytes)) = some (some (.int .u8 0), 1, 1) := by kernel_rfl
end Go.Proofs.YtalhnnjpjaeakabGreat
/- What is read is written as the same bytes, and may be written: plain laws. -/
namespace Go.Proofs.YtalhnnjpjaeakabGreat
set_option linter.unusedVariables false
/-- What a good reading says of the item: its encoding is what was read; its weight is no greater. -/
def Good (d : Nat) (b : List Int) (t : T) (n : Nat) : Prop :=
  enc t = b.take n ∧ form t = true ∧ ∀ w, w + n ≤ 16777215 → (wk t d w).2 = 0 ∧ (wk t d w).1 ≤ w + n
end Go.Proofs.YtalhnnjpjaeakabGreat

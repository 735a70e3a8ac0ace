/- Accounts as bytes: plain. -/
import Derived.Test.YtmaajddofmahpaaG12
import Derived.Test.YtmaajddofmahpaaG11
import Derived.Test.YtmaajddofmahpaaG06
import Derived.Test.YtmaajddofmahpaaG01
import Derived.ProofKit
import Derived.OpenShut
import Derived.ShutString
import Derived.ChangeOld
import Derived.SizedLaws
namespace Go.Proofs.Ytmaajddofmahpaa
set_option linter.unusedVariables false
theorem wo_nb (n : Nat) : Wo.nb n = nb n := by
  induction n using Nat.strongRecOn with
  | _ n ih =>
    by_cases h : n = 0
    · subst h; rw [Wo.nb_zero, nb_zero]
    · rw [Wo.nb_pos (by omega), nb_pos (by omega), ih (n / 256) (by omega)]
theorem wo_be (n : Nat) : Wo.be n = be n := by
  induction n using Nat.strongRecOn with
  | _ n ih =>
    by_cases h : n = 0
    · subst h; rw [Wo.be_zero, be_zero]
    · rw [Wo.be_pos (by omega), be_pos (by omega), ih (n / 256) (by omega)]
/-- An account. -/
structure PA where
  n : Nat
  b : Nat
  c : List Int
  s : List Int
def W64 : Nat := 18446744073709551616
def bytP (b : List Int) : Prop := ∀ x ∈ b, 0 ≤ x ∧ x < 256
structure okA (a : PA) : Prop where
  n : a.n < W64
  b : a.b < W64
  c : a.c.length = 32
  cb : bytP a.c
  s : a.s.length = 32
  sb : bytP a.s
/-- Bytes as an item. -/
def tx (b : List Int) : T := .mk false b []
def itA (a : PA) : T := .mk true [] [tx (be a.n), tx (be a.b), tx a.c, tx a.s]
def enA (a : PA) : List Int := enc (itA a)
/-- The word whose bytes these are. -/
def wdA (b : List Int) : Option Nat := if 8 < b.length ∨ (0 < b.length ∧ b.getD 0 0 = 0) then none else some (Wo.vl b)
def acOf (t : T) : Option PA := match t with
  | .mk true [] [.mk false x [], .mk false y [], .mk false c [], .mk false s []] =>
    match wdA x, wdA y with
    | some n, some b => if c.length = 32 ∧ s.length = 32 then some ⟨n, b, c, s⟩ else none
    | _, _ => none
  | _ => none
/-- The account of which bytes are the encoding. -/
def deA (b : List Int) : Option PA := match decP b with
  | .bad _ => none
  | .ok t => acOf t
theorem be_b8 {n : Nat} (h : n < W64) : (be n).length ≤ 8 := by rw [← wo_be, Wo.be_len]; exact Wo.nb8 h
theorem be_byt (n : Nat) : bytP (be n) := by rw [← wo_be]; exact Wo.be_bd n
theorem wd_be {n : Nat} (h : n < W64) : wdA (be n) = some n := by
  unfold wdA
  rw [if_neg, ← wo_be, Wo.vl_be]
  rintro (q | ⟨q1, q2⟩)
  · have := be_b8 h; omega
  · by_cases h0 : n = 0
    · subst h0; rw [be_zero] at q1; simp at q1
    · have := be_head n (by omega)
      have hne := be_ne (n := n) (by omega)
      apply this
      cases hq : be n with
      | nil => exact absurd hq hne
      | cons x r => rw [hq] at q2; simpa using q2
theorem tx_enc_le {b : List Int} (h : b.length ≤ 32) : (enc (tx b)).length ≤ b.length + 1 ∧ 1 ≤ (enc (tx b)).length := by
  have h1 := enc_pos (tx b)
  refine ⟨?_, h1⟩
  unfold tx
  rw [enc_eq, encs_nil, List.append_nil]
  split
  · omega
  · rw [List.length_append, hd_len, if_neg (by omega)]; omega
theorem tx_enc32 {b : List Int} (h : b.length = 32) : (enc (tx b)).length = 33 := by
  unfold tx
  rw [enc_eq, encs_nil, List.append_nil, if_neg (by simp [bare, h])]
  rw [List.length_append, hd_len, if_neg (by omega)]; omega
theorem body_len {a : PA} (h : okA a) : 68 ≤ (encs [tx (be a.n), tx (be a.b), tx a.c, tx a.s]).length ∧ (encs [tx (be a.n), tx (be a.b), tx a.c, tx a.s]).length ≤ 84 := by
  rw [encs_cons, encs_cons, encs_cons, encs_cons, encs_nil, List.append_nil]
  simp only [List.length_append]
  have h1 := tx_enc_le (b := be a.n) (by have := be_b8 h.n; omega)
  have h2 := tx_enc_le (b := be a.b) (by have := be_b8 h.b; omega)
  have h3 := be_b8 h.n
  have h4 := be_b8 h.b
  rw [tx_enc32 h.c, tx_enc32 h.s]
  omega
theorem wk_tx {b : List Int} {d w : Nat} (hd : 0 < d) (h : w + max b.length 1 ≤ 16777215) : wk (tx b) d w = (w + max b.length 1, 0) := by
  unfold tx
  rw [wk_eq]
  simp only [Bool.false_and, Bool.false_eq_true, if_false]
  rw [if_neg (by simp [wrongForm])]
  have hw : wt false b d = max b.length 1 := by simp [wt]
  rw [hw, if_neg (by omega), wks_nil]
theorem mA {a : PA} (h : okA a) : (mP (itA a)).2 = 0 := by
  have h1 := be_b8 h.n
  have h2 := be_b8 h.b
  have h3 := h.c
  have h4 := h.s
  have hwk : (wk (itA a) 0 0).2 = 0 := by
    unfold itA
    rw [wk_eq]
    simp only [Bool.true_and]
    rw [if_neg (by simp), if_neg (by simp [wrongForm])]
    have hw : wt true [] 0 = 0 := by simp [wt]
    rw [hw, if_neg (by omega)]
    rw [wks_cons, wk_tx (by omega) (by omega), if_pos rfl, wks_cons, wk_tx (by omega) (by simp only; omega), if_pos rfl, wks_cons, wk_tx (by omega) (by simp only; omega), if_pos rfl, wks_cons, wk_tx (by omega) (by simp only; omega), if_pos rfl, wks_nil]
  have hf := wk_form (itA a) 0 0 hwk
  have hb := body_len h
  have hs : szb (itA a) ≤ 84 := by
    rw [szb_len hf]
    unfold bodyOf itA
    simp only [T.bs, T.its, List.nil_append]
    omega
  unfold mP
  rw [if_neg (by rw [hwk]; simp), if_neg (by omega)]
theorem de_back {a : PA} (h : okA a) : deA (enA a) = some a := by
  unfold deA enA
  rw [enc_dec (mA h)]
  simp only [itA, tx, acOf, wd_be h.n, wd_be h.b]
  rw [if_pos ⟨h.c, h.s⟩]
theorem enA_inj {a c : PA} (ha : okA a) (hc : okA c) (h : enA a = enA c) : a = c := by
  have := de_back ha
  rw [h, de_back hc] at this
  cases this; rfl
/-- What the document's Decode comes to: the account that is read somehow, if these are its bytes. -/
def ddA (b : List Int) : Option PA := match decP b with
  | .bad _ => none
  | .ok t => match t.its with
    | [x, y, c, s] => match wdA x.bs, wdA y.bs with
      | some n, some m => if enA ⟨n, m, (c.bs ++ List.replicate 32 0).take 32, (s.bs ++ List.replicate 32 0).take 32⟩ = b then some ⟨n, m, (c.bs ++ List.replicate 32 0).take 32, (s.bs ++ List.replicate 32 0).take 32⟩ else none
      | _, _ => none
    | _ => none
end Go.Proofs.Ytmaajddofmahpaa
/- How a slice of bytes that is handed in reads as data: nil, or a row of bytes that takes no more than the form's own reach. -/
namespace Go.Proofs.Ytmaajddofmahpaa
open Go.ChangeShapes Go.WideShapes Go.ChangeAt Go.RowKit
open Go.ChangeMaps (open_string shut_string)
set_option linter.unusedVariables false
set_option maxRecDepth 100000
theorem own : ownKnob Try.prog.godebug = none := by kernel_rfl
theorem laidOut : laidOutB Try.prog = true := by kernel_rfl
end Go.Proofs.Ytmaajddofmahpaa

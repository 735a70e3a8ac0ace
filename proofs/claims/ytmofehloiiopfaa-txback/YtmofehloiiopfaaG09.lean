/- Accounts as bytes: plain. -/
import Derived.Test.YtmofehloiiopfaaG08
import Derived.Test.YtmofehloiiopfaaG04
import Derived.Test.YtmofehloiiopfaaG07
import Derived.Test.YtmofehloiiopfaaG00
namespace Go.Proofs.Ytmofehloiiopfaa
set_option linter.unusedVariables false
theorem wo_nb (n : Nat) : Wo.nb n = nb n := by
  induction n using Nat.strongRecOn with
  | _ n ih =>
    by_cases h : n = 0
    · subst h; rw [Wo.nb_zero, nb_zero]
    · rw [Wo.nb_pos (by omega), nb_pos (by omega), ih (n / 256) (by omega)]
theorem wo_be (n : Nat) : Wo.be n = be n := by
  induction n using Nat.strongRecOn with
  | _ n ih =>
    by_cases h : n = 0
    · subst h; rw [Wo.be_zero, be_zero]
    · rw [Wo.be_pos (by omega), be_pos (by omega), ih (n / 256) (by omega)]
/-- An account. -/
structure PA where
  n : Nat
  b : Nat
  c : List Int
  s : List Int
def W64 : Nat := 18446744073709551616
def bytP (b : List Int) : Prop := ∀ x ∈ b, 0 ≤ x ∧ x < 256
structure okA (a : PA) : Prop where
  n : a.n < W64
  b : a.b < W64
  c : a.c.length = 32
  cb : bytP a.c
  s : a.s.length = 32
  sb : bytP a.s
/-- Bytes as an item. -/
def tx (b : List Int) : T := .mk false b []
def itA (a : PA) : T := .mk true [] [tx (be a.n), tx (be a.b), tx a.c, tx a.s]
def enA (a : PA) : List Int := enc (itA a)
/-- The word whose bytes these are. -/
def wdA (b : List Int) : Option Nat := if 8 < b.length ∨ (0 < b.length ∧ b.getD 0 0 = 0) then none else some (Wo.vl b)
def acOf (t : T) : Option PA := match t with
  | .mk true [] [.mk false x [], .mk false y [], .mk false c [], .mk false s []] =>
    match wdA x, wdA y with
    | some n, some b => if c.length = 32 ∧ s.length = 32 then some ⟨n, b, c, s⟩ else none
    | _, _ => none
  | _ => none
/-- The account of which bytes are the encoding. -/
def deA (b : List Int) : Option PA := match decP b with
  | .bad _ => none
  | .ok t => acOf t
theorem be_b8 {n : Nat} (h : n < W64) : (be n).length ≤ 8 := by rw [← wo_be, Wo.be_len]; exact Wo.nb8 h
theorem be_byt (n : Nat) : bytP (be n) := by rw [← wo_be]; exact Wo.be_bd n
theorem wd_be {n : Nat} (h : n < W64) : wdA (be n) = some n := by
  unfold wdA
  rw [if_neg, ← wo_be, Wo.vl_be]
  rintro (q | ⟨q1, q2⟩)
  · have := be_b8 h; omega
  · by_cases h0 : n = 0
    · subst h0; rw [be_zero] at q1; simp at q1
    · have := be_head n (by omega)
      have hne := be_ne (n := n) (by omega)
      apply this
      cases hq : be n with
      | nil => exact absurd hq hne
      | cons x r => rw [hq] at q2; simpa using q2
theorem wd_some {b : List Int} {n : Nat} (hb : bytP b) (h : wdA b = some n) : n < W64 ∧ be n = b := by
  unfold wdA at h
  split at h
  · cases h
  · rename_i hq
    cases h
    have h8 : b.length ≤ 8 := by omega
    refine ⟨?_, ?_⟩
    · have := Wo.vl_lt b hb
      have h2 : 256 ^ b.length ≤ 256 ^ 8 := Nat.pow_le_pow_right (by omega) h8
      unfold W64
      omega
    · rw [← wo_be]
      exact (Wo.be_vl b hb).2 (by intro q; exact hq (.inr q))
theorem tx_enc_le {b : List Int} (h : b.length ≤ 32) : (enc (tx b)).length ≤ b.length + 1 ∧ 1 ≤ (enc (tx b)).length := by
  have h1 := enc_pos (tx b)
  refine ⟨?_, h1⟩
  unfold tx
  rw [enc_eq, encs_nil, List.append_nil]
  split
  · omega
  · rw [List.length_append, hd_len, if_neg (by omega)]; omega
theorem wk_tx {b : List Int} {d w : Nat} (hd : 0 < d) (h : w + max b.length 1 ≤ 16777215) : wk (tx b) d w = (w + max b.length 1, 0) := by
  unfold tx
  rw [wk_eq]
  simp only [Bool.false_and, Bool.false_eq_true, if_false]
  rw [if_neg (by simp [wrongForm])]
  have hw : wt false b d = max b.length 1 := by simp [wt]
  rw [hw, if_neg (by omega), wks_nil]
theorem encs_byts : ∀ {its : List T}, (∀ t ∈ its, (∀ x ∈ enc t, 0 ≤ x ∧ x < 256) → byt t) → (∀ x ∈ encs its, 0 ≤ x ∧ x < 256) → byts its
  | [], _, _ => by rw [byts]; trivial
  | t :: r, h, hb => by
    rw [encs_cons] at hb
    rw [byts_cons]
    exact ⟨h t (by simp) (fun x hx => hb x (List.mem_append_left _ hx)), encs_byts (fun u hu => h u (List.mem_cons_of_mem _ hu)) (fun x hx => hb x (List.mem_append_right _ hx))⟩
theorem enc_byt : ∀ t : T, (∀ x ∈ enc t, 0 ≤ x ∧ x < 256) → byt t := by
  refine T.ind ?_
  intro l bs its ih hb
  have hbody : ∀ x ∈ bs ++ encs its, 0 ≤ x ∧ x < 256 := by
    intro x hx
    apply hb
    rw [enc_eq]
    split
    · exact hx
    · exact List.mem_append_right _ hx
  rw [byt_eq]
  exact ⟨fun x hx => hbody x (List.mem_append_left _ hx), encs_byts ih (fun x hx => hbody x (List.mem_append_right _ hx))⟩
/-- What the document's Decode comes to: the account that is read somehow, if these are its bytes. -/
def ddA (b : List Int) : Option PA := match decP b with
  | .bad _ => none
  | .ok t => match t.its with
    | [x, y, c, s] => match wdA x.bs, wdA y.bs with
      | some n, some m => if enA ⟨n, m, (c.bs ++ List.replicate 32 0).take 32, (s.bs ++ List.replicate 32 0).take 32⟩ = b then some ⟨n, m, (c.bs ++ List.replicate 32 0).take 32, (s.bs ++ List.replicate 32 0).take 32⟩ else none
      | _, _ => none
    | _ => none
end Go.Proofs.Ytmofehloiiopfaa
/- Transactions as bytes: plain. -/
namespace Go.Proofs.Ytmofehloiiopfaa
set_option linter.unusedVariables false
/-- A transaction. -/
structure PX where
  f : Nat
  n : Nat
  g : Nat
  p : Nat
  o : Nat
  v : Nat
  i : List Nat
  m : Bool
  c : List Int
structure okX (t : PX) : Prop where
  f : t.f < W64
  n : t.n < W64
  g : t.g < W64
  p : t.p < W64
  o : t.o < W64
  v : t.v < W64
  i : ∀ x ∈ t.i, x < W64
  c : bytP t.c
/-- May a transaction be? -/
def rtX (t : PX) : Bool := decide (t.i.length ≤ 8 ∧ t.c.length ≤ 256) && (if t.m then decide (t.o = 0 ∧ t.i.length = 0) else decide (t.c.length = 0))
theorem rtX_len {t : PX} (h : rtX t = true) : t.i.length ≤ 8 ∧ t.c.length ≤ 256 := by
  unfold rtX at h
  rw [Bool.and_eq_true] at h
  exact of_decide_eq_true h.1
def mkB (m : Bool) : List Int := if m then [1] else []
def itX (t : PX) : T := .mk true [] [tx (be t.f), tx (be t.n), tx (be t.g), tx (be t.p), tx (be t.o), tx (be t.v), .mk true [] (t.i.map fun n => tx (be n)), tx (mkB t.m), tx t.c]
def enX (t : PX) : List Int := enc (itX t)
def wds : List T → Option (List Nat)
  | [] => some []
  | t :: r => match t with
    | .mk false b [] => match wdA b, wds r with
      | some n, some l => some (n :: l)
      | _, _ => none
    | _ => none
def mkO (b : List Int) : Option Bool := if b = [] then some false else if b = [1] then some true else none
def xOf (t : T) : Option PX := match t with
  | .mk true [] [.mk false a [], .mk false b [], .mk false c [], .mk false d [], .mk false e [], .mk false f [], .mk true [] its, .mk false m [], .mk false co []] =>
    match wdA a, wdA b, wdA c, wdA d, wdA e, wdA f, wds its, mkO m with
    | some x1, some x2, some x3, some x4, some x5, some x6, some l, some mm => if rtX ⟨x1, x2, x3, x4, x5, x6, l, mm, co⟩ then some ⟨x1, x2, x3, x4, x5, x6, l, mm, co⟩ else none
    | _, _, _, _, _, _, _, _ => none
  | _ => none
/-- The transaction of which bytes are the encoding. -/
def deX (b : List Int) : Option PX := match decP b with
  | .bad _ => none
  | .ok t => xOf t
theorem mkO_mkB (m : Bool) : mkO (mkB m) = some m := by cases m <;> rfl
theorem mkB_mkO {b : List Int} {m : Bool} (h : mkO b = some m) : mkB m = b := by
  unfold mkO at h
  split at h
  · cases h; rename_i e; rw [e]; rfl
  · split at h
    · cases h; rename_i e; rw [e]; rfl
    · cases h
theorem wds_be : ∀ {l : List Nat}, (∀ x ∈ l, x < W64) → wds (l.map fun n => tx (be n)) = some l
  | [], _ => rfl
  | n :: r, h => by
    rw [List.map_cons, tx, wds]
    simp only [wd_be (h n (by simp)), wds_be (l := r) (fun x hx => h x (List.mem_cons_of_mem _ hx))]
theorem bytX_mem : ∀ {its : List T}, byts its → ∀ t ∈ its, byt t
  | [], _, t, h => by cases h
  | a :: r, hb, t, h => by
    rw [byts_cons] at hb
    rcases List.mem_cons.1 h with rfl | h
    · exact hb.1
    · exact bytX_mem hb.2 t h
theorem wds_some : ∀ {its : List T} {l : List Nat}, byts its → wds its = some l → its = l.map (fun n => tx (be n)) ∧ ∀ x ∈ l, x < W64
  | [], l, _, h => by rw [wds] at h; cases h; exact ⟨rfl, fun x hx => by cases hx⟩
  | t :: r, l, hb, h => by
    rw [byts_cons] at hb
    rw [wds.eq_def] at h
    simp only at h
    split at h
    · rename_i b
      split at h
      · rename_i n l' h1 h2
        cases h
        obtain ⟨q1, q2⟩ := wds_some hb.2 h2
        have hb1 : bytP b := by have := hb.1; rw [byt_eq] at this; exact this.1
        obtain ⟨q3, q4⟩ := wd_some hb1 h1
        refine ⟨by rw [List.map_cons, ← q1, tx, q4], fun x hx => ?_⟩
        rcases List.mem_cons.1 hx with rfl | hx
        · exact q3
        · exact q2 x hx
      · cases h
    · cases h
theorem xOf_it {t : PX} (h : okX t) (hr : rtX t = true) : xOf (itX t) = some t := by
  unfold itX tx
  rw [xOf]
  simp only [wd_be h.f, wd_be h.n, wd_be h.g, wd_be h.p, wd_be h.o, wd_be h.v, mkO_mkB]
  have := wds_be h.i
  unfold tx at this
  rw [this]
  simp only
  rw [if_pos hr]
theorem xOf_some {t : T} {a : PX} (h : xOf t = some a) (hb : byt t) : okX a ∧ rtX a = true ∧ t = itX a := by
  unfold xOf at h
  split at h
  · rename_i a b c d e f its m co
    rw [byt_eq] at hb
    obtain ⟨_, hb⟩ := hb
    have hm := bytX_mem hb
    have hby : ∀ {x : List Int}, byt (.mk false x []) → bytP x := fun {x} h => by rw [byt_eq] at h; exact h.1
    split at h
    · rename_i x1 x2 x3 x4 x5 x6 l mm h1 h2 h3 h4 h5 h6 h7 h8
      split at h
      · rename_i hr
        cases h
        obtain ⟨p1, q1⟩ := wd_some (hby (hm _ (by simp))) h1
        obtain ⟨p2, q2⟩ := wd_some (hby (hm _ (by simp))) h2
        obtain ⟨p3, q3⟩ := wd_some (hby (hm _ (by simp))) h3
        obtain ⟨p4, q4⟩ := wd_some (hby (hm _ (by simp))) h4
        obtain ⟨p5, q5⟩ := wd_some (hby (hm _ (by simp))) h5
        obtain ⟨p6, q6⟩ := wd_some (hby (hm _ (by simp))) h6
        have hi : byt (.mk true [] its) := hm _ (by simp)
        rw [byt_eq] at hi
        obtain ⟨p7, q7⟩ := wds_some hi.2 h7
        have p8 := mkB_mkO h8
        refine ⟨⟨p1, p2, p3, p4, p5, p6, q7, hby (hm _ (by simp))⟩, hr, ?_⟩
        unfold itX
        simp only
        rw [q1, q2, q3, q4, q5, q6, ← p7, p8]
        rfl
      · cases h
    · cases h
  · cases h
theorem encs_words : ∀ {l : List Nat}, (∀ x ∈ l, x < W64) → (encs (l.map fun n => tx (be n))).length ≤ 9 * l.length
  | [], _ => by rw [List.map_nil, encs_nil]; simp
  | n :: r, h => by
    rw [List.map_cons, encs_cons, List.length_append, List.length_cons]
    have h1 := tx_enc_le (b := be n) (by have := be_b8 (h n (by simp)); omega)
    have h2 := be_b8 (h n (by simp))
    have h3 := encs_words (l := r) (fun x hx => h x (List.mem_cons_of_mem _ hx))
    omega
theorem tx_enc_le2 {b : List Int} (h : b.length ≤ 300) : (enc (tx b)).length ≤ b.length + 3 := by
  unfold tx
  rw [enc_eq, encs_nil, List.append_nil]
  split
  · omega
  · rw [List.length_append, hd_len]
    by_cases h55 : 55 < b.length
    · rw [if_pos h55]
      have : nb b.length ≤ 2 := by rw [← wo_nb]; exact (Wo.nb_le_iff _ 2).2 (by omega)
      omega
    · rw [if_neg h55]; omega
theorem ls_enc_le {l : List Nat} (h : ∀ x ∈ l, x < W64) (hl : l.length ≤ 8) : (enc (.mk true [] (l.map fun n => tx (be n)))).length ≤ 75 := by
  have := encs_words h
  rw [enc_eq, List.nil_append, if_neg (by simp [bare]), List.length_append, hd_len]
  by_cases h55 : 55 < (encs (l.map fun n => tx (be n))).length
  · rw [if_pos h55]
    have : nb (encs (l.map fun n => tx (be n))).length ≤ 1 := by rw [← wo_nb]; exact (Wo.nb_le_iff _ 1).2 (by omega)
    omega
  · rw [if_neg h55]; omega
theorem bodyX {t : PX} (h : okX t) (hr : rtX t = true) : (encs (itX t).its).length ≤ 400 := by
  unfold itX
  simp only [T.its]
  repeat rw [encs_cons]
  rw [encs_nil, List.append_nil]
  simp only [List.length_append]
  obtain ⟨r1, r2⟩ := rtX_len hr
  have a1 := tx_enc_le (b := be t.f) (by have := be_b8 h.f; omega)
  have a2 := tx_enc_le (b := be t.n) (by have := be_b8 h.n; omega)
  have a3 := tx_enc_le (b := be t.g) (by have := be_b8 h.g; omega)
  have a4 := tx_enc_le (b := be t.p) (by have := be_b8 h.p; omega)
  have a5 := tx_enc_le (b := be t.o) (by have := be_b8 h.o; omega)
  have a6 := tx_enc_le (b := be t.v) (by have := be_b8 h.v; omega)
  have b1 := be_b8 h.f
  have b2 := be_b8 h.n
  have b3 := be_b8 h.g
  have b4 := be_b8 h.p
  have b5 := be_b8 h.o
  have b6 := be_b8 h.v
  have a7 := ls_enc_le h.i r1
  have a8 := tx_enc_le (b := mkB t.m) (by cases t.m <;> simp [mkB])
  have b8 : (mkB t.m).length ≤ 1 := by cases t.m <;> simp [mkB]
  have a9 := tx_enc_le2 (b := t.c) (by omega)
  omega
theorem enX_len {t : PX} (h : okX t) (hr : rtX t = true) : (enX t).length ≤ 410 := by
  have hb := bodyX h hr
  unfold enX
  have e : itX t = .mk true [] (itX t).its := rfl
  rw [e, enc_eq, List.nil_append, if_neg (by simp [bare]), List.length_append, hd_len]
  by_cases h55 : 55 < (encs (itX t).its).length
  · rw [if_pos h55]
    have : nb (encs (itX t).its).length ≤ 2 := by rw [← wo_nb]; exact (Wo.nb_le_iff _ 2).2 (by omega)
    omega
  · rw [if_neg h55]; omega
theorem wks_words : ∀ {l : List Nat} {d w : Nat}, (∀ x ∈ l, x < W64) → 0 < d → w + 8 * l.length ≤ 16777215 → ∃ k, k ≤ 8 * l.length ∧ wks (l.map fun n => tx (be n)) d w = (w + k, 0)
  | [], d, w, _, _, _ => ⟨0, by simp, by rw [List.map_nil, wks_nil]; rfl⟩
  | n :: r, d, w, h, hd, hw => by
    rw [List.length_cons] at hw
    have h8 := be_b8 (h n (by simp))
    obtain ⟨k, h1, h2⟩ := wks_words (l := r) (d := d) (w := w + max (be n).length 1) (fun x hx => h x (List.mem_cons_of_mem _ hx)) hd (by omega)
    refine ⟨max (be n).length 1 + k, by rw [List.length_cons]; omega, ?_⟩
    rw [List.map_cons, wks_cons, wk_tx hd (by omega), if_pos rfl, h2, Nat.add_assoc]
theorem wk_list {l : List Nat} {d w : Nat} (h : ∀ x ∈ l, x < W64) (hd : 0 < d) (hd8 : d < 8) (hw : w + 8 * l.length + 1 ≤ 16777215) : ∃ k, k ≤ 8 * l.length + 1 ∧ wk (.mk true [] (l.map fun n => tx (be n))) d w = (w + k, 0) := by
  obtain ⟨k, h1, h2⟩ := wks_words (l := l) (d := d + 1) (w := w + 1) h (by omega) (by omega)
  refine ⟨1 + k, by omega, ?_⟩
  rw [wk_eq]
  simp only [Bool.true_and]
  rw [if_neg (by simp; omega), if_neg (by simp [wrongForm])]
  have hw1 : wt true [] d = 1 := by
    unfold wt
    rw [if_neg (by simp; omega)]
    rfl
  rw [hw1, if_neg (by omega), h2, Nat.add_assoc]
theorem mX {t : PX} (h : okX t) (hr : rtX t = true) : (mP (itX t)).2 = 0 := by
  obtain ⟨r1, r2⟩ := rtX_len hr
  have b1 := be_b8 h.f
  have b2 := be_b8 h.n
  have b3 := be_b8 h.g
  have b4 := be_b8 h.p
  have b5 := be_b8 h.o
  have b6 := be_b8 h.v
  have b8 : (mkB t.m).length ≤ 1 := by cases t.m <;> simp [mkB]
  have hwk : (wk (itX t) 0 0).2 = 0 := by
    unfold itX
    rw [wk_eq]
    simp only [Bool.true_and]
    rw [if_neg (by simp), if_neg (by simp [wrongForm])]
    have hw : wt true [] 0 = 0 := by simp [wt]
    rw [hw, if_neg (by omega)]
    rw [wks_cons, wk_tx (by omega) (by omega), if_pos rfl, wks_cons, wk_tx (by omega) (by simp only; omega), if_pos rfl, wks_cons, wk_tx (by omega) (by simp only; omega), if_pos rfl, wks_cons, wk_tx (by omega) (by simp only; omega), if_pos rfl, wks_cons, wk_tx (by omega) (by simp only; omega), if_pos rfl, wks_cons, wk_tx (by omega) (by simp only; omega), if_pos rfl]
    simp only
    obtain ⟨k, k1, k2⟩ := wk_list (l := t.i) (d := 0 + 1) (w := 0 + 0 + max (be t.f).length 1 + max (be t.n).length 1 + max (be t.g).length 1 + max (be t.p).length 1 + max (be t.o).length 1 + max (be t.v).length 1) h.i (by omega) (by omega) (by omega)
    rw [wks_cons, k2, if_pos rfl, wks_cons, wk_tx (by omega) (by simp only; omega), if_pos rfl, wks_cons, wk_tx (by omega) (by simp only; omega), if_pos rfl, wks_nil]
  have hf := wk_form (itX t) 0 0 hwk
  have hb := bodyX h hr
  have hs : szb (itX t) ≤ 400 := by
    rw [szb_len hf]
    unfold bodyOf
    rw [show (itX t).bs = [] from rfl, List.nil_append]
    exact hb
  unfold mP
  rw [if_neg (by rw [hwk]; simp), if_neg (by omega)]
theorem deX_back {t : PX} (h : okX t) (hr : rtX t = true) : deX (enX t) = some t := by
  unfold deX enX
  rw [enc_dec (mX h hr)]
  exact xOf_it h hr
theorem rd_of_dec {b : List Int} {t : T} (hd : decP b = .ok t) : rd 8 b = .ok t b.length := by
  unfold decP at hd
  cases hq : rd 8 b with
  | bad e => rw [hq] at hd; cases hd
  | ok t' n =>
    rw [hq] at hd
    simp only at hd
    split at hd
    · cases hd
    · cases hd
      have := (rd_n hq).2
      rw [show n = b.length from by omega]
theorem dec_byt {b : List Int} {t : T} (hb : bytP b) (hd : decP b = .ok t) : byt t ∧ enc t = b := by
  obtain ⟨h1, h2⟩ := dec_enc hb (rd_of_dec hd)
  have hen : enc t = b := by unfold encP at h1; rw [if_pos h2] at h1; exact congrArg Prod.fst h1
  exact ⟨enc_byt t (by rw [hen]; exact hb), hen⟩
theorem deX_some {b : List Int} {a : PX} (hb : bytP b) (h : deX b = some a) : okX a ∧ rtX a = true ∧ enX a = b ∧ decP b = .ok (itX a) := by
  unfold deX at h
  cases hd : decP b with
  | bad e => rw [hd] at h; cases h
  | ok t =>
    rw [hd] at h
    obtain ⟨h1, h2⟩ := dec_byt hb hd
    obtain ⟨h3, h4, h5⟩ := xOf_some h h1
    exact ⟨h3, h4, by unfold enX; rw [← h5]; exact h2, by rw [h5]⟩
def t0 : T := .mk false [] []
theorem t0_byt : byt t0 := by unfold t0; rw [byt_eq]; exact ⟨fun x hx => (by cases hx), by rw [byts]; trivial⟩
def rdX (b : List Int) : Nat := (wdA b).getD 0
/-- What the document's Decode comes to: what is read somehow, if it may be and these are its bytes. -/
def sxOf (l : List T) : PX := ⟨rdX (l.getD 0 t0).bs, rdX (l.getD 1 t0).bs, rdX (l.getD 2 t0).bs, rdX (l.getD 3 t0).bs, rdX (l.getD 4 t0).bs, rdX (l.getD 5 t0).bs, (l.getD 6 t0).its.map (fun u => rdX u.bs), decide (0 < (l.getD 7 t0).bs.length), (l.getD 8 t0).bs⟩
def ddX (b : List Int) : Option PX := match decP b with
  | .bad _ => none
  | .ok t => if t.its.length = 9 ∧ rtX (sxOf t.its) = true ∧ enX (sxOf t.its) = b then some (sxOf t.its) else none
end Go.Proofs.Ytmofehloiiopfaa
/- How a transaction that is handed in reads as data. -/
namespace Go.Proofs.Ytmofehloiiopfaa
open Go.ChangeShapes Go.WideShapes Go.ChangeAt Go.RowKit
set_option linter.unusedVariables false
set_option maxRecDepth 100000
theorem cellsTX : Try.prog.cellsOf 26 = 9 := by kernel_rfl
theorem cellsU : Try.prog.cellsOf 22 = 1 := by kernel_rfl
theorem cellsUL : Try.prog.cellsOf 23 = 1 := by kernel_rfl
theorem cells4 : Try.prog.cellsOf 4 = 1 := by kernel_rfl
theorem cellsB : Try.prog.cellsOf 24 = 1 := by kernel_rfl
theorem bytesU : Try.prog.bytesOf 22 = 8 := by kernel_rfl
/-- A row of words in memory. -/
structure Wl (w : World) (a : Option Addr) (m c : Nat) (l : List Nat) : Prop where
  i : (m = 0 ∧ l = []) ∨ ∃ gb off, a = some ⟨gb, off, none⟩ ∧ ∀ j, j < m → w.cell? ⟨gb, off + j, none⟩ = some (.int .u64 (l.getD j 0 : Nat))
  n : a = none → m = 0 ∧ c = 0
  e : l.length = m
  b : ∀ x ∈ l, x < W64
  c : m ≤ c ∧ c ≤ maxLen ∧ m ≤ 17592186044416
theorem Wl.keep {w w' : World} {a : Option Addr} {m c : Nat} {l : List Nat} (h : Wl w a m c l) (hk : ∀ g off, a = some ⟨g, off, none⟩ → g < w.heap.size → w'.heap[g]? = w.heap[g]?) : Wl w' a m c l := by
  refine ⟨?_, h.n, h.e, h.b, h.c⟩
  rcases h.i with h0 | ⟨gb, off, e, hc⟩
  · exact .inl h0
  · refine .inr ⟨gb, off, e, fun j hj => ?_⟩
    have h1 := hc j hj
    have hlt : gb < w.heap.size := by
      by_cases hq : gb < w.heap.size
      · exact hq
      · have : w.heap[gb]? = none := Array.getElem?_eq_none (by omega)
        simp [World.cell?, this] at h1
    rw [World.cell?, hk gb off e hlt]
    exact h1
theorem Wl.go {w w' : World} {a : Option Addr} {m c : Nat} {l : List Nat} (h : Wl w a m c l) (hb : Below w.heap.size w w') : Wl w' a m c l := h.keep fun g _ _ hlt => hb.block g hlt
/-- A transaction in memory. -/
structure TV where
  t : PX
  ia : Option Addr
  im : Nat
  ic : Nat
  ca : Option Addr
  cn : Nat
  cc : Nat
abbrev u64 (n : Nat) : Value := .int .u64 (n : Nat)
def TV.cells (y : TV) : Array Value := #[u64 y.t.f, u64 y.t.n, u64 y.t.g, u64 y.t.p, u64 y.t.o, u64 y.t.v, .slice y.ia y.im y.ic, .bool y.t.m, .slice y.ca y.cn y.cc]
structure TXa (w : World) (y : TV) : Prop where
  o : okX y.t
  i : Wl w y.ia y.im y.ic y.t.i
  c : Ag w y.ca y.cn y.cc y.t.c
  m : y.cn ≤ 140737488351232
theorem split9 {cs : List Value} (h : cs.length = 9) : cs = (cs.drop 0).take 1 ++ ((cs.drop 1).take 1 ++ ((cs.drop 2).take 1 ++ ((cs.drop 3).take 1 ++ ((cs.drop 4).take 1 ++ ((cs.drop 5).take 1 ++ ((cs.drop 6).take 1 ++ ((cs.drop 7).take 1 ++ (cs.drop 8).take 1))))))) := by
  match cs, h with
  | [a, b, c, d, e, f, g, i, j], _ => rfl
section
variable {H : Type} {enc : TypeId × Value → H} {w : World} {held : Bool}
theorem open_agX {fuel : Nat} {cs : List Value} {x : DataW H × List MemPlace} (hf : DataW.trod enc Try.prog w 0 (fun _ => true) held fuel 24 cs = some x)
    (hsz : ∀ n ∈ x.1.weights Try.prog 24, n ≤ reachBytes) : ∃ a len cap bs, cs = [.slice a len cap] ∧ Ag w a len cap bs ∧ len ≤ 140737488351232 := by
  rcases open_ints Try.underlying24 Try.underlying5 cells5 hf with ⟨hcs, _⟩ | ⟨p, len, cap, zs, hcs, _, hl, hm, hz, hx, hcell, hwz⟩
  · exact ⟨none, 0, 0, [], hcs, ⟨.inl ⟨rfl, rfl⟩, fun _ => ⟨rfl, rfl⟩, rfl, fun x hx => by cases hx⟩, by omega⟩
  · have hz2 : zs.length = cap := by simpa using hz
    have hsz2 := hsz ((zs.take len).length + (zs.drop len).length) (by
      rw [hx]
      simp only [DataW.weights, Try.underlying24, lits, List.length_map, bytes5, Nat.mul_one]
      exact List.mem_cons_self ..)
    simp only [List.length_take, List.length_drop, reachBytes] at hsz2
    have hlen : (zs.take len).length = len := by rw [List.length_take]; omega
    have hbd : ∀ n ∈ zs.take len, 0 ≤ n ∧ n < 256 := fun n hn => by
      have := bounds_u8 (hwz n (List.mem_of_mem_take hn))
      omega
    refine ⟨some p, len, cap, zs.take len, hcs, ⟨?_, (fun h => by cases h), hlen, hbd⟩, by omega⟩
    by_cases h0 : len = 0
    · subst h0
      exact .inl ⟨rfl, by simp⟩
    · obtain ⟨b, off, spot⟩ := p
      have hc := hcell 0 (by omega)
      have hspot : spot = none := by simpa [Addr.add] using World.cell?_spot hc
      subst hspot
      refine .inr ⟨b, off, rfl, hlen, by omega, hl, hm, fun j hj => ?_⟩
      rw [hlen] at hj
      have := hcell j (by omega)
      rw [addr_add] at this
      rw [this, List.getD, List.getD, List.getElem?_take_of_lt hj]
theorem open_wl {fuel : Nat} {cs : List Value} {x : DataW H × List MemPlace} (hf : DataW.trod enc Try.prog w 0 (fun _ => true) held fuel 23 cs = some x)
    (hsz : ∀ n ∈ x.1.weights Try.prog 23, n ≤ reachBytes) : ∃ a len cap l, cs = [.slice a len cap] ∧ Wl w a len cap l := by
  rcases open_ints Try.underlying23 Try.underlying22 cellsU hf with ⟨hcs, _⟩ | ⟨p, len, cap, zs, hcs, _, hl, hm, hz, hx, hcell, hwz⟩
  · exact ⟨none, 0, 0, [], hcs, ⟨.inl ⟨rfl, rfl⟩, fun _ => ⟨rfl, rfl⟩, rfl, (fun x hx => by cases hx), by omega, by unfold maxLen; omega, by omega⟩⟩
  · have hz2 : zs.length = cap := by simpa using hz
    have hsz2 := hsz (((zs.take len).length + (zs.drop len).length) * 8) (by
      rw [hx]
      simp only [DataW.weights, Try.underlying23, lits, List.length_map, bytesU]
      exact List.mem_cons_self ..)
    simp only [List.length_take, List.length_drop, reachBytes] at hsz2
    have hbd : ∀ n ∈ zs, 0 ≤ n ∧ n < 18446744073709551616 := fun n hn => by
      have := bounds_u64 (hwz n hn)
      omega
    refine ⟨some p, len, cap, (zs.take len).map Int.toNat, hcs, ?_, (fun h => by cases h), by rw [List.length_map, List.length_take]; omega, ?_, hl, hm, by omega⟩
    · by_cases h0 : len = 0
      · subst h0
        exact .inl ⟨rfl, by simp⟩
      · obtain ⟨b, off, spot⟩ := p
        have hc := hcell 0 (by omega)
        have hspot : spot = none := by simpa [Addr.add] using World.cell?_spot hc
        subst hspot
        refine .inr ⟨b, off, rfl, fun j hj => ?_⟩
        have h1 := hcell j (by omega)
        rw [addr_add] at h1
        have hj2 : j < zs.length := by omega
        have h2 := hbd zs[j] (List.getElem_mem hj2)
        rw [h1]
        simp only [List.getD, List.getElem?_map, List.getElem?_take_of_lt hj, List.getElem?_eq_getElem hj2, Option.map_some, Option.getD_some]
        rw [Int.toNat_of_nonneg h2.1]
    · intro y hy
      obtain ⟨z, hz, rfl⟩ := List.mem_map.1 hy
      have h2 := hbd z (List.mem_of_mem_take hz)
      unfold W64
      omega
theorem open_uX {fuel : Nat} {cs : List Value} {x : DataW H × List MemPlace} (hf : DataW.trod enc Try.prog w 0 (fun _ => true) held fuel 22 cs = some x) : ∃ n : Nat, cs = [u64 n] ∧ n < W64 := by
  obtain ⟨n, hn, _, hwf⟩ := DataW.trod_int Try.underlying22 hf
  have hb := bounds_u64 hwf
  exact ⟨n.toNat, by rw [hn, u64, Int.toNat_of_nonneg hb.1], by unfold W64; omega⟩
theorem open_tx {b0 : Nat} {r : Reach} {v : Value} {d : DataW H} {p : List MemPlace} (hv : Value.okWide Try.prog w r b0 26 v) (h : DataW.Trod enc Try.prog w 0 (fun _ => true) held 26 v d p)
    (hsz : ∀ n ∈ d.weights Try.prog 26, n ≤ reachBytes) : ∃ y : TV, v = .agg y.cells ∧ TXa w y := by
  obtain ⟨cs, rfl, hc⟩ := okWide_struct Try.underlying26 hv
  obtain ⟨fuel, hf⟩ := h
  obtain ⟨xs, n, hfu, hx, hcl, hxl, hel⟩ := DataW.trod_struct Try.underlying26 hf
  rw [cellsTX] at hcl
  have hxl9 : xs.length = 9 := hxl
  obtain ⟨x0, x1, x2, x3, x4, x5, x6, x7, x8, rfl⟩ : ∃ x0 x1 x2 x3 x4 x5 x6 x7 x8, xs = [x0, x1, x2, x3, x4, x5, x6, x7, x8] := by
    match xs, hxl9 with
    | [a, b, c, d, e, f, g, i, j], _ => exact ⟨a, b, c, d, e, f, g, i, j, rfl⟩
  have hd : d = DataW.agg [x0.1, x1.1, x2.1, x3.1, x4.1, x5.1, x6.1, x7.1, x8.1] := congrArg Prod.fst hx
  have tk : ∀ (i : Nat) (f : Field) (x : DataW H × List MemPlace), (DataW.trod enc Try.prog w 0 (fun _ => true) held n f.type (List.take (Try.prog.cellsOf f.type) (List.drop f.offset (Value.agg cs).cells.toList)) = some x) → DataW.trod enc Try.prog w 0 (fun _ => true) held n f.type (((Value.agg cs).cells.toList.drop f.offset).take (Try.prog.cellsOf f.type)) = some x := fun _ _ _ h => h
  have f0 : DataW.trod enc Try.prog w 0 (fun _ => true) held n 22 (((Value.agg cs).cells.toList.drop 0).take (Try.prog.cellsOf 22)) = some x0 := hel 0 _ rfl
  have f1 : DataW.trod enc Try.prog w 0 (fun _ => true) held n 22 (((Value.agg cs).cells.toList.drop 1).take (Try.prog.cellsOf 22)) = some x1 := hel 1 _ rfl
  have f2 : DataW.trod enc Try.prog w 0 (fun _ => true) held n 22 (((Value.agg cs).cells.toList.drop 2).take (Try.prog.cellsOf 22)) = some x2 := hel 2 _ rfl
  have f3 : DataW.trod enc Try.prog w 0 (fun _ => true) held n 22 (((Value.agg cs).cells.toList.drop 3).take (Try.prog.cellsOf 22)) = some x3 := hel 3 _ rfl
  have f4 : DataW.trod enc Try.prog w 0 (fun _ => true) held n 22 (((Value.agg cs).cells.toList.drop 4).take (Try.prog.cellsOf 22)) = some x4 := hel 4 _ rfl
  have f5 : DataW.trod enc Try.prog w 0 (fun _ => true) held n 22 (((Value.agg cs).cells.toList.drop 5).take (Try.prog.cellsOf 22)) = some x5 := hel 5 _ rfl
  have f6 : DataW.trod enc Try.prog w 0 (fun _ => true) held n 23 (((Value.agg cs).cells.toList.drop 6).take (Try.prog.cellsOf 23)) = some x6 := hel 6 _ rfl
  have f7 : DataW.trod enc Try.prog w 0 (fun _ => true) held n 4 (((Value.agg cs).cells.toList.drop 7).take (Try.prog.cellsOf 4)) = some x7 := hel 7 _ rfl
  have f8 : DataW.trod enc Try.prog w 0 (fun _ => true) held n 24 (((Value.agg cs).cells.toList.drop 8).take (Try.prog.cellsOf 24)) = some x8 := hel 8 _ rfl
  rw [cellsU] at f0 f1 f2 f3 f4 f5
  rw [cellsUL] at f6
  rw [cells4] at f7
  rw [cellsB] at f8
  have hwt : ∀ (k : Nat), (k ∈ x6.1.weights Try.prog 23 ∨ k ∈ x8.1.weights Try.prog 24) → k ≤ reachBytes := by
    intro k hk
    refine hsz k ?_
    rw [hd]
    simp only [DataW.weights, Try.underlying26]
    simp only [List.map, DataW.weightsEach, List.mem_append]
    rcases hk with hk | hk
    · exact .inr (.inr (.inr (.inr (.inr (.inr (.inl hk))))))
    · exact .inr (.inr (.inr (.inr (.inr (.inr (.inr (.inr (.inl hk))))))))
  obtain ⟨z0, h0, b0⟩ := open_uX f0
  obtain ⟨z1, h1, b1⟩ := open_uX f1
  obtain ⟨z2, h2, b2⟩ := open_uX f2
  obtain ⟨z3, h3, b3⟩ := open_uX f3
  obtain ⟨z4, h4, b4⟩ := open_uX f4
  obtain ⟨z5, h5, b5⟩ := open_uX f5
  obtain ⟨ia, im, ic, l, h6, b6⟩ := open_wl f6 (fun k hk => hwt k (.inl hk))
  obtain ⟨m, h7, _⟩ := DataW.trod_bool Try.underlying4 f7
  obtain ⟨ca, cn, cc, c, h8, b8, b9⟩ := open_agX f8 (fun k hk => hwt k (.inr hk))
  refine ⟨⟨⟨z0, z1, z2, z3, z4, z5, l, m, c⟩, ia, im, ic, ca, cn, cc⟩, ?_, ⟨⟨b0, b1, b2, b3, b4, b5, b6.b, b8.b⟩, b6, b8, b9⟩⟩
  congr 1
  apply Array.ext'
  have hs := split9 (cs := (Value.agg cs).cells.toList) hcl
  rw [h0, h1, h2, h3, h4, h5, h6, h7, h8] at hs
  have hs2 : cs.toList = [u64 z0, u64 z1, u64 z2, u64 z3, u64 z4, u64 z5, .slice ia im ic, .bool m, .slice ca cn cc] := by simpa [Value.cells] using hs
  exact hs2
end
end Go.Proofs.Ytmofehloiiopfaa

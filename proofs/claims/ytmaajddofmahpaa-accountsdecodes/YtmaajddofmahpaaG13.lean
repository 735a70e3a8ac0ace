/- Accounts as bytes: plain. -/
import Derived.Test.YtmaajddofmahpaaG12
import Derived.Test.YtmaajddofmahpaaG11
import Derived.Test.YtmaajddofmahpaaG06
import Derived.Test.YtmaajddofmahpaaG01
import Derived.ProofKit
import Derived.OpenShut
import Derived.ShutString
import Derived.ChangeOld
import Derived.SizedLaws
namespace Go.Proofs.Ytmaajddofmahpaa
set_option linter.unusedVariables false
theorem wo_nb (n : Nat) : Wo.nb n = nb n := by
  induction n using Nat.strongRecOn with
  | _ n ih =>
    by_cases h : n = 0
    · subst h; rw [Wo.nb_zero, nb_zero]
    · rw [Wo.nb_pos (by omega), nb_pos (by omega), ih (n / 256) (by omega)]
theorem wo_be (n : Nat) : Wo.be n = be n := by
  induction n using Nat.strongRecOn with
  | _ n ih =>
    by_cases h : n = 0
    · subst h; rw [Wo.be_zero, be_zero]
    · rw [Wo.be_pos (by omega), be_pos (by omega), ih (n / 256) (by omega)]
/-- An account. -/
structure PA where
  n : Nat
  b : Nat
  c : List Int
  s : List Int
def W64 : Nat := 18446744073709551616
def bytP (b : List Int) : Prop := ∀ x ∈ b, 0 ≤ x ∧ x < 256
structure okA (a : PA) : Prop where
  n : a.n < W64
  b : a.b < W64
  c : a.c.length = 32
  cb : bytP a.c
  s : a.s.length = 32
  sb : bytP a.s
/-- Bytes as an item. -/
def tx (b : List Int) : T := .mk false b []
def itA (a : PA) : T := .mk true [] [tx (be a.n), tx (be a.b), tx a.c, tx a.s]
def enA (a : PA) : List Int := enc (itA a)
/-- The word whose bytes these are. -/
def wdA (b : List Int) : Option Nat := if 8 < b.length ∨ (0 < b.length ∧ b.getD 0 0 = 0) then none else some (Wo.vl b)
def acOf (t : T) : Option PA := match t with
  | .mk true [] [.mk false x [], .mk false y [], .mk false c [], .mk false s []] =>
    match wdA x, wdA y with
    | some n, some b => if c.length = 32 ∧ s.length = 32 then some ⟨n, b, c, s⟩ else none
    | _, _ => none
  | _ => none
/-- The account of which bytes are the encoding. -/
def deA (b : List Int) : Option PA := match decP b with
  | .bad _ => none
  | .ok t => acOf t
theorem be_b8 {n : Nat} (h : n < W64) : (be n).length ≤ 8 := by rw [← wo_be, Wo.be_len]; exact Wo.nb8 h
theorem be_byt (n : Nat) : bytP (be n) := by rw [← wo_be]; exact Wo.be_bd n
theorem wd_be {n : Nat} (h : n < W64) : wdA (be n) = some n := by
  unfold wdA
  rw [if_neg, ← wo_be, Wo.vl_be]
  rintro (q | ⟨q1, q2⟩)
  · have := be_b8 h; omega
  · by_cases h0 : n = 0
    · subst h0; rw [be_zero] at q1; simp at q1
    · have := be_head n (by omega)
      have hne := be_ne (n := n) (by omega)
      apply this
      cases hq : be n with
      | nil => exact absurd hq hne
      | cons x r => rw [hq] at q2; simpa using q2
theorem wd_some {b : List Int} {n : Nat} (hb : bytP b) (h : wdA b = some n) : n < W64 ∧ be n = b := by
  unfold wdA at h
  split at h
  · cases h
  · rename_i hq
    cases h
    have h8 : b.length ≤ 8 := by omega
    refine ⟨?_, ?_⟩
    · have := Wo.vl_lt b hb
      have h2 : 256 ^ b.length ≤ 256 ^ 8 := Nat.pow_le_pow_right (by omega) h8
      unfold W64
      omega
    · rw [← wo_be]
      exact (Wo.be_vl b hb).2 (by intro q; exact hq (.inr q))
theorem tx_enc_le {b : List Int} (h : b.length ≤ 32) : (enc (tx b)).length ≤ b.length + 1 ∧ 1 ≤ (enc (tx b)).length := by
  have h1 := enc_pos (tx b)
  refine ⟨?_, h1⟩
  unfold tx
  rw [enc_eq, encs_nil, List.append_nil]
  split
  · omega
  · rw [List.length_append, hd_len, if_neg (by omega)]; omega
theorem tx_enc32 {b : List Int} (h : b.length = 32) : (enc (tx b)).length = 33 := by
  unfold tx
  rw [enc_eq, encs_nil, List.append_nil, if_neg (by simp [bare, h])]
  rw [List.length_append, hd_len, if_neg (by omega)]; omega
theorem body_len {a : PA} (h : okA a) : 68 ≤ (encs [tx (be a.n), tx (be a.b), tx a.c, tx a.s]).length ∧ (encs [tx (be a.n), tx (be a.b), tx a.c, tx a.s]).length ≤ 84 := by
  rw [encs_cons, encs_cons, encs_cons, encs_cons, encs_nil, List.append_nil]
  simp only [List.length_append]
  have h1 := tx_enc_le (b := be a.n) (by have := be_b8 h.n; omega)
  have h2 := tx_enc_le (b := be a.b) (by have := be_b8 h.b; omega)
  have h3 := be_b8 h.n
  have h4 := be_b8 h.b
  rw [tx_enc32 h.c, tx_enc32 h.s]
  omega
theorem wk_tx {b : List Int} {d w : Nat} (hd : 0 < d) (h : w + max b.length 1 ≤ 16777215) : wk (tx b) d w = (w + max b.length 1, 0) := by
  unfold tx
  rw [wk_eq]
  simp only [Bool.false_and, Bool.false_eq_true, if_false]
  rw [if_neg (by simp [wrongForm])]
  have hw : wt false b d = max b.length 1 := by simp [wt]
  rw [hw, if_neg (by omega), wks_nil]
theorem mA {a : PA} (h : okA a) : (mP (itA a)).2 = 0 := by
  have h1 := be_b8 h.n
  have h2 := be_b8 h.b
  have h3 := h.c
  have h4 := h.s
  have hwk : (wk (itA a) 0 0).2 = 0 := by
    unfold itA
    rw [wk_eq]
    simp only [Bool.true_and]
    rw [if_neg (by simp), if_neg (by simp [wrongForm])]
    have hw : wt true [] 0 = 0 := by simp [wt]
    rw [hw, if_neg (by omega)]
    rw [wks_cons, wk_tx (by omega) (by omega), if_pos rfl, wks_cons, wk_tx (by omega) (by simp only; omega), if_pos rfl, wks_cons, wk_tx (by omega) (by simp only; omega), if_pos rfl, wks_cons, wk_tx (by omega) (by simp only; omega), if_pos rfl, wks_nil]
  have hf := wk_form (itA a) 0 0 hwk
  have hb := body_len h
  have hs : szb (itA a) ≤ 84 := by
    rw [szb_len hf]
    unfold bodyOf itA
    simp only [T.bs, T.its, List.nil_append]
    omega
  unfold mP
  rw [if_neg (by rw [hwk]; simp), if_neg (by omega)]
theorem de_back {a : PA} (h : okA a) : deA (enA a) = some a := by
  unfold deA enA
  rw [enc_dec (mA h)]
  simp only [itA, tx, acOf, wd_be h.n, wd_be h.b]
  rw [if_pos ⟨h.c, h.s⟩]
theorem encs_byts : ∀ {its : List T}, (∀ t ∈ its, (∀ x ∈ enc t, 0 ≤ x ∧ x < 256) → byt t) → (∀ x ∈ encs its, 0 ≤ x ∧ x < 256) → byts its
  | [], _, _ => by rw [byts]; trivial
  | t :: r, h, hb => by
    rw [encs_cons] at hb
    rw [byts_cons]
    exact ⟨h t (by simp) (fun x hx => hb x (List.mem_append_left _ hx)), encs_byts (fun u hu => h u (List.mem_cons_of_mem _ hu)) (fun x hx => hb x (List.mem_append_right _ hx))⟩
theorem enc_byt : ∀ t : T, (∀ x ∈ enc t, 0 ≤ x ∧ x < 256) → byt t := by
  refine T.ind ?_
  intro l bs its ih hb
  have hbody : ∀ x ∈ bs ++ encs its, 0 ≤ x ∧ x < 256 := by
    intro x hx
    apply hb
    rw [enc_eq]
    split
    · exact hx
    · exact List.mem_append_right _ hx
  rw [byt_eq]
  exact ⟨fun x hx => hbody x (List.mem_append_left _ hx), encs_byts ih (fun x hx => hbody x (List.mem_append_right _ hx))⟩
theorem acOf_some {t : T} {a : PA} (h : acOf t = some a) (hb : byt t) : okA a ∧ t = itA a := by
  unfold acOf at h
  split at h
  · rename_i x y c s
    have hbb : bytP x ∧ bytP y ∧ bytP c ∧ bytP s := by
      rw [byt_eq, byts_cons, byts_cons, byts_cons, byts_cons, byt_eq, byt_eq, byt_eq, byt_eq] at hb
      exact ⟨hb.2.1.1, hb.2.2.1.1, hb.2.2.2.1.1, hb.2.2.2.2.1.1⟩
    cases hx : wdA x with
    | none => rw [hx] at h; cases h
    | some n =>
      cases hy : wdA y with
      | none => rw [hx, hy] at h; cases h
      | some b =>
        rw [hx, hy] at h
        simp only at h
        split at h
        · rename_i h32
          cases h
          obtain ⟨q1, q2⟩ := wd_some hbb.1 hx
          obtain ⟨q3, q4⟩ := wd_some hbb.2.1 hy
          exact ⟨⟨q1, q3, h32.1, hbb.2.2.1, h32.2, hbb.2.2.2⟩, by simp only [itA, tx]; rw [q2, q4]⟩
        · cases h
  · cases h
theorem de_some {b : List Int} {a : PA} (hb : bytP b) (h : deA b = some a) : okA a ∧ enA a = b ∧ decP b = .ok (itA a) := by
  unfold deA at h
  cases hd : decP b with
  | bad e => rw [hd] at h; cases h
  | ok t =>
    rw [hd] at h
    simp only at h
    have hr : rd 8 b = .ok t b.length := by
      unfold decP at hd
      cases hq : rd 8 b with
      | bad e => rw [hq] at hd; cases hd
      | ok t' n =>
        rw [hq] at hd
        simp only at hd
        split at hd
        · cases hd
        · cases hd
          have := (rd_n hq).2
          rw [show n = b.length from by omega]
    obtain ⟨h1, h2⟩ := dec_enc hb hr
    have hen : enc t = b := by unfold encP at h1; rw [if_pos h2] at h1; exact congrArg Prod.fst h1
    have hby : byt t := enc_byt t (by rw [hen]; exact hb)
    obtain ⟨h3, h4⟩ := acOf_some h hby
    refine ⟨h3, ?_, by rw [h4]⟩
    unfold encP at h1
    rw [if_pos h2] at h1
    unfold enA
    rw [← h4]
    exact congrArg Prod.fst h1
/-- What the document's Decode comes to: the account that is read somehow, if these are its bytes. -/
def ddA (b : List Int) : Option PA := match decP b with
  | .bad _ => none
  | .ok t => match t.its with
    | [x, y, c, s] => match wdA x.bs, wdA y.bs with
      | some n, some m => if enA ⟨n, m, (c.bs ++ List.replicate 32 0).take 32, (s.bs ++ List.replicate 32 0).take 32⟩ = b then some ⟨n, m, (c.bs ++ List.replicate 32 0).take 32, (s.bs ++ List.replicate 32 0).take 32⟩ else none
      | _, _ => none
    | _ => none
theorem dig32 {c : List Int} (h : bytP c) : ((c ++ List.replicate 32 0).take 32).length = 32 ∧ bytP ((c ++ List.replicate 32 0).take 32) := by
  refine ⟨by simp, fun x hx => ?_⟩
  rcases List.mem_append.1 (List.mem_of_mem_take hx) with q | q
  · exact h x q
  · rw [List.mem_replicate.1 q |>.2]; omega
theorem dig_eq {c : List Int} (h : c.length = 32) : (c ++ List.replicate 32 0).take 32 = c := by rw [← h, List.take_left]
theorem dd_eq {b : List Int} (hb : bytP b) : ddA b = deA b := by
  cases hq : deA b with
  | some a =>
    obtain ⟨h1, h2, h3⟩ := de_some hb hq
    unfold ddA
    rw [h3]
    simp only [itA, tx, T.its, T.bs, wd_be h1.n, wd_be h1.b, dig_eq h1.c, dig_eq h1.s]
    rw [if_pos h2]
  | none =>
    cases hd : ddA b with
    | none => rfl
    | some a =>
      exfalso
      unfold ddA at hd
      split at hd
      · cases hd
      · rename_i t ht
        split at hd
        · rename_i x y c s hits
          split at hd
          · rename_i n m hx hy
            split at hd
            · rename_i he
              cases hd
              have hby : byts t.its := by
                have hr : rd 8 b = .ok t b.length := by
                  unfold decP at ht
                  cases hq2 : rd 8 b with
                  | bad e => rw [hq2] at ht; cases ht
                  | ok t' k =>
                    rw [hq2] at ht
                    simp only at ht
                    split at ht
                    · cases ht
                    · cases ht
                      have := (rd_n hq2).2
                      rw [show k = b.length from by omega]
                obtain ⟨h1, h2⟩ := dec_enc hb hr
                have hen : enc t = b := by unfold encP at h1; rw [if_pos h2] at h1; exact congrArg Prod.fst h1
                have hby : byt t := enc_byt t (by rw [hen]; exact hb)
                cases t with
                | mk l bs its => rw [byt_eq] at hby; exact hby.2
              rw [hits, byts_cons, byts_cons, byts_cons, byts_cons] at hby
              have hbs : ∀ {u : T}, byt u → bytP u.bs := fun {u} h => by cases u with | mk l bs its => rw [byt_eq] at h; exact h.1
              have ok : okA ⟨n, m, (c.bs ++ List.replicate 32 0).take 32, (s.bs ++ List.replicate 32 0).take 32⟩ :=
                ⟨(wd_some (hbs hby.1) hx).1, (wd_some (hbs hby.2.1) hy).1, (dig32 (hbs hby.2.2.1)).1, (dig32 (hbs hby.2.2.1)).2, (dig32 (hbs hby.2.2.2.1)).1, (dig32 (hbs hby.2.2.2.1)).2⟩
              have := de_back ok
              rw [he, hq] at this
              cases this
            · cases hd
          · cases hd
        · cases hd
end Go.Proofs.Ytmaajddofmahpaa
/- How a slice of bytes that is handed in reads as data: nil, or a row of bytes that takes no more than the form's own reach. -/
namespace Go.Proofs.Ytmaajddofmahpaa
open Go.ChangeShapes Go.WideShapes Go.ChangeAt Go.RowKit
open Go.ChangeMaps (open_string shut_string)
set_option linter.unusedVariables false
set_option maxRecDepth 100000
theorem own : ownKnob Try.prog.godebug = none := by kernel_rfl
theorem laidOut : laidOutB Try.prog = true := by kernel_rfl
theorem cells5 : Try.prog.cellsOf 5 = 1 := by kernel_rfl
theorem bytes5 : Try.prog.bytesOf 5 = 1 := by kernel_rfl
/-- A slice of bytes that came in, opened: its bytes; it takes no more than the reach. -/
theorem open_bytes {H : Type} {enc : TypeId × Value → H} {w : World} {base b0 : Nat} {r : Reach} {held : Bool} {v : Value} {d : DataW H} {p : List MemPlace}
    (hv : Value.okWide Try.prog w r b0 29 v) (h : DataW.Trod enc Try.prog w base (fun _ => true) held 29 v d p)
    (hsz : ∀ elems spare, d = .slice elems spare → (elems.length + spare.length) * Try.prog.bytesOf 5 ≤ reachBytes) :
    ∃ a len cap bs, v = .slice a len cap ∧ In0 w a len cap bs ∧ (a = none → len = 0 ∧ cap = 0) ∧ bs.length = len ∧ (∀ x ∈ bs, 0 ≤ x ∧ x < 256) ∧ len ≤ 140737488351232 := by
  obtain ⟨a, len, cap, rfl⟩ := okWide_slice Try.underlying29 hv
  obtain ⟨fuel, hf⟩ := h
  rcases open_ints Try.underlying29 Try.underlying5 cells5 hf with ⟨hcs, _⟩ | ⟨x, l, c, zs, hcs, _, hl, hm, hz, hx, hcell, hwz⟩
  · simp [Value.cells] at hcs
    obtain ⟨rfl, rfl, rfl⟩ := hcs
    exact ⟨none, 0, 0, [], rfl, .inl ⟨rfl, rfl⟩, fun _ => ⟨rfl, rfl⟩, rfl, (fun x hx => by cases hx), by omega⟩
  · simp [Value.cells] at hcs
    obtain ⟨rfl, rfl, rfl⟩ := hcs
    have hz2 : zs.length = cap := by simpa using hz
    have hsz2 := hsz _ _ (Prod.mk.inj hx).1
    rw [bytes5] at hsz2
    simp only [lits, List.length_map, List.length_take, List.length_drop, reachBytes] at hsz2
    have hlen : (zs.take len).length = len := by rw [List.length_take]; omega
    have hbd : ∀ n ∈ zs.take len, 0 ≤ n ∧ n < 256 := fun n hn => by
      have := bounds_u8 (hwz n (List.mem_of_mem_take hn))
      omega
    refine ⟨some x, len, cap, zs.take len, rfl, ?_, (fun h => by cases h), hlen, hbd, by omega⟩
    by_cases h0 : len = 0
    · subst h0
      exact .inl ⟨rfl, by simp⟩
    · obtain ⟨b, off, spot⟩ := x
      have hc := hcell 0 (by omega)
      have hspot : spot = none := by simpa [Addr.add] using World.cell?_spot hc
      subst hspot
      refine .inr ⟨b, off, rfl, hlen, by omega, hl, hm, fun j hj => ?_⟩
      rw [hlen] at hj
      have := hcell j (by omega)
      rw [addr_add] at this
      rw [this, List.getD, List.getD, List.getElem?_take_of_lt hj]
theorem open_ag {H : Type} {enc : TypeId × Value → H} {w : World} {base b0 : Nat} {r : Reach} {held : Bool} {v : Value} {d : DataW H} {p : List MemPlace}
    (hv : Value.okWide Try.prog w r b0 29 v) (h : DataW.Trod enc Try.prog w base (fun _ => true) held 29 v d p)
    (hsz : ∀ elems spare, d = .slice elems spare → (elems.length + spare.length) * Try.prog.bytesOf 5 ≤ reachBytes) :
    ∃ a len cap bs, v = .slice a len cap ∧ Ag w a len cap bs ∧ len ≤ 140737488351232 := by
  obtain ⟨a, len, cap, bs, h1, h2, h3, h4, h5, h6⟩ := open_bytes hv h hsz
  exact ⟨a, len, cap, bs, h1, ⟨h2, h3, h4, h5⟩, h6⟩
end Go.Proofs.Ytmaajddofmahpaa

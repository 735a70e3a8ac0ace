/- What the document's size answers. -/
import Derived.Test.YtkbdkenpblcofaaE2
namespace Go.Proofs.Ytkbdkenpblcofaa
open Go.RowKit
set_option linter.unusedVariables false
mutual
/-- The size as the document counts it. -/
def rsz : T → Nat
  | .mk l bs its => if bare l bs then 1 else if 16777215 < (if l then 0 else bs.length) + rszs its then (if l then 0 else bs.length) + rszs its else szOf true [] ((if l then 0 else bs.length) + rszs its)
def rszs : List T → Nat
  | [] => 0
  | t :: r => rsz t + rszs r
end
theorem rsz_eq (l : Bool) (bs : List Int) (its : List T) : rsz (.mk l bs its) = if bare l bs then 1 else if 16777215 < (if l then 0 else bs.length) + rszs its then (if l then 0 else bs.length) + rszs its else szOf true [] ((if l then 0 else bs.length) + rszs its) := by rw [rsz]
theorem rszs_nil : rszs [] = 0 := by rw [rszs]
theorem rszs_cons (t : T) (r : List T) : rszs (t :: r) = rsz t + rszs r := by rw [rszs]
theorem rszs_append : ∀ a b : List T, rszs (a ++ b) = rszs a + rszs b
  | [], b => by rw [rszs_nil]; simp
  | t :: r, b => by rw [List.cons_append, rszs_cons, rszs_cons, rszs_append r b]; omega
theorem rszs_more {its : List T} {k : Nat} {t : T} (h : its[k]? = some t) : rszs (its.take (k + 1)) = rszs (its.take k) + rsz t := by
  rw [take_succ_get h, rszs_append, rszs_cons, rszs_nil]
  rfl
def Like (a b : Nat) : Prop := a = b ∨ (16777215 < a ∧ 16777215 < b ∧ a ≤ b)
theorem rszs_like : ∀ {its : List T}, (∀ t ∈ its, Like (rsz t) (sz t)) → Like (rszs its) (szs its)
  | [], _ => by rw [rszs_nil, szs_nil]; exact .inl rfl
  | t :: r, h => by
    rw [rszs_cons, szs_cons]
    have h1 := h t (List.mem_cons_self ..)
    have h2 := rszs_like fun u hu => h u (List.mem_cons_of_mem _ hu)
    unfold Like at *
    omega
theorem szOf_base (n : Nat) : szOf true [] n = 1 + n + (if 55 < n then nb n else 0) := by unfold szOf bare; simp
theorem rsz_like : ∀ t, form t = true → Like (rsz t) (sz t) := by
  refine T.ind fun l bs its ih h => ?_
  rw [rsz_eq, sz_eq]
  cases l with
  | false =>
    have hi := form_text h
    subst hi
    rw [rszs_nil, szs_nil]
    simp only [Bool.false_eq_true, if_false, Nat.add_zero]
    by_cases hb : bare false bs = true
    · rw [if_pos hb]
      unfold szOf
      rw [if_pos hb]
      unfold bare at hb
      simp only [Bool.and_eq_true, decide_eq_true_eq] at hb
      exact .inl hb.2.1.symm
    · rw [if_neg hb]
      have e : szOf false bs bs.length = szOf true [] bs.length := by rw [szOf_base]; unfold szOf; rw [if_neg hb]
      rw [e]
      by_cases hm : 16777215 < bs.length
      · rw [if_pos hm]
        have := szOf_ge true [] bs.length
        exact .inr ⟨hm, by omega, this⟩
      · rw [if_neg hm]; exact .inl rfl
  | true =>
    obtain ⟨hb, hf⟩ := form_list h
    subst hb
    have hk := rszs_like fun t ht => ih t ht (forms_mem hf t ht)
    rw [if_neg (by simp [bare]), if_pos rfl, Nat.zero_add, show ([] : List Int).length + szs its = szs its from by simp]
    have hg := szOf_ge true [] (szs its)
    unfold Like at *
    rcases hk with hk | ⟨h1, h2, h3⟩
    · rw [hk]
      by_cases hm : 16777215 < szs its
      · rw [if_pos hm]; exact .inr ⟨hm, by omega, hg⟩
      · rw [if_neg hm]; exact .inl rfl
    · rw [if_pos h1]; exact .inr ⟨h1, by omega, by omega⟩
theorem rsz_le {t : T} (h : form t = true) : rsz t ≤ sz t := by have := rsz_like t h; unfold Like at this; omega
theorem rszs_le {its : List T} (h : forms its = true) : rszs its ≤ szs its := by
  have := rszs_like fun t ht => rsz_like t (forms_mem h t ht)
  unfold Like at this; omega
theorem rszs_take {its : List T} (k : Nat) : rszs (its.take k) ≤ rszs its := by
  have e := rszs_append (its.take k) (its.drop k)
  rw [List.take_append_drop] at e
  omega
theorem szOf_hd {n : Nat} : szOf true [] n = n + (hd 0 n).length := by
  rw [szOf_base, hd_len]
  split <;> omega
def SizeSaid (t : T) : Prop := ∀ (x : V) (w : World), Lies w t x → form t = true → rsz t ≤ 1000000000000 →
  Calls Try.prog 22 #[.agg #[.bool x.l, .slice x.ba x.bn x.bc, .slice x.ia x.m x.ic]] w fun e w' => e = .returned (.int .i64 (rsz t : Nat)) ∧ Below w.heap.size w w'
set_option maxHeartbeats 4000000 in
theorem size_step (l : Bool) (bs : List Int) (its : List T) (ih : ∀ t ∈ its, SizeSaid t) : SizeSaid (.mk l bs its) := by
  intro x w hx hf hbig
  obtain ⟨xl, xag, xm, xic, xic2, ⟨xbn, xm2⟩, xall⟩ := lies_eq.1 hx
  have HBN := Hid.mk (below_new w (.cells #[.bool x.l, .slice x.ba x.bn x.bc, .slice x.ia x.m x.ic] 25))
  have HBX := Hid.mk (b1_new w x)
  have HX := Hid.mk (lies_mono HBN.out _ x hx)
  have HAG := Hid.mk (xag.at HBN.out)
  have HXM := Hid.mk xm
  have HIH := Hid.mk ih
  have hbl := xag.l
  have hre := rsz_eq l bs its
  obtain ⟨R0, hR0⟩ : ∃ R0, rsz (.mk l bs its) = R0 := ⟨_, rfl⟩
  rw [hR0]
  rw [hR0] at hre hbig
  obtain ⟨xl', xba, xbn', xbc, xia, xm', xic'⟩ := x
  simp only at xl xbn xm2 HBX HBN HX HAG HXM hbl xm
  subst xl
  obtain ⟨W, hW⟩ : ∃ W, w.alloc (.cells #[.bool xl', .slice xba xbn' xbc, .slice xia xm' xic'] 25) = W := ⟨_, rfl⟩
  have HWW := Hid.mk hW
  rw [hW] at HBN HBX HX HAG
  clear hx xag xall ih xic xic2 hW hR0
  cases xl' with
  | false =>
    have hi := form_text hf
    subst hi
    have hm0 : xm' = 0 := xm
    subst hm0
    simp only [Bool.false_eq_true, if_false, rszs_nil, Nat.add_zero] at hre
    by_cases hbare : bare false bs = true
    · rw [if_pos hbare] at hre
      subst hre
      unfold bare at hbare
      simp only [Bool.and_eq_true, decide_eq_true_eq] at hbare
      obtain ⟨_, b2, b3⟩ := hbare
      have hn1 : xbn' = 1 := by omega
      subst hn1
      obtain ⟨g, off, rfl, hc1, hc2, hc⟩ := ag_head HAG.out (by omega)
      unfold maxLen at hc2
      have hc0 := hc 0 (by omega)
      rw [Nat.add_zero, ← HWW.out] at hc0
      have hh : bs.getD 0 0 = bs.headD 0 := by cases bs <;> rfl
      have hz := (HAG.out.b (bs.getD 0 0) (by rw [List.getD, List.getElem?_eq_getElem (by omega)]; exact List.getElem_mem _)).1
      rw [← hh] at b3
      generalize bs.getD 0 0 = z at *
      clear hc hh b2 hbl hf xm
      go_enter Try.func22, Try.ntmps22
      go_wp2_with fail
      go_ret
      exact ⟨rfl, by rw [HWW.out]; exact HBN.out⟩
    rw [if_neg hbare, hbl] at hre
    have HR0 := Hid.mk hre.symm
    clear hre
    by_cases hn1 : xbn' = 1
    · have hnb : ((xbn' : Int) == 1) = true := by rw [beq_iff_eq]; omega
      have hnp : 0 < xbn' := by omega
      obtain ⟨g, off, rfl, hc1, hc2, hc⟩ := ag_head HAG.out (by omega)
      unfold maxLen at hc2
      have hc0 := hc 0 (by omega)
      rw [Nat.add_zero, ← HWW.out] at hc0
      have hh : bs.getD 0 0 = bs.headD 0 := by cases bs <;> rfl
      have hz := (HAG.out.b (bs.getD 0 0) (by rw [List.getD, List.getElem?_eq_getElem (by omega)]; exact List.getElem_mem _)).2
      have hge : ¬ bs.getD 0 0 < 128 := fun h => hbare (by unfold bare; rw [← hh, decide_eq_true h, decide_eq_true (show bs.length = 1 by omega)]; rfl)
      generalize bs.getD 0 0 = z at *
      clear hc hh hbl hf xm hbare hn1
      go_enter Try.func22, Try.ntmps22
      go_wp2_with fail
      rw [HWW.out]
      go_loopw [3, 4] (fun p q v => p = .int .i64 xbn' ∧ q = .int .i64 0 ∧ Below W.heap.size W v) (fun _ _ _ => 0)
      case atStart => exact ⟨rfl, rfl, Below.refl _ _⟩
      case round =>
        obtain ⟨rfl, rfl, hbv⟩ := hrel
        obtain ⟨d0, d1, d2⟩ := HBX.out.go hbv
        simp only at d0 d1 d2
        have HBV := Hid.mk hbv
        clear hbv
        by_cases hmax : 16777215 < xbn'
        · have hmi : (xbn' : Int) > 16777215 := by omega
          have e : R0 = xbn' := by rw [← HR0.out, if_pos hmax]
          subst e
          go_wp2_with fail
          go_ret
          exact ⟨rfl, below_go HBN.out HBV.out⟩
        · have hmi : ¬ (xbn' : Int) > 16777215 := by omega
          have e : R0 = xbn' + (hd 0 xbn').length := by rw [← HR0.out, if_neg hmax, szOf_hd]
          have h4 := hd_le4 (base := 0) (n := xbn') (by omega)
          have hcal := rhead_any 0 xbn' (by omega) (by omega) wr
          rw [show ((0 : Nat) : Int) = 0 from rfl] at hcal
          obtain ⟨K, hK⟩ : ∃ K, (hd 0 xbn').length = K := ⟨_, rfl⟩
          rw [hK] at hcal e h4
          subst e
          have HC := Hid.mk hcal
          clear hcal hK
          go_wp2_with fail
          refine HC.out.mono ?_
          rintro e w2 ⟨rfl, _, hb2⟩
          have HB2 := Hid.mk (below_go HBV.out hb2)
          clear hb2
          go_wp2_with fail
          go_ret
          exact ⟨by simp, below_go HBN.out HB2.out⟩
    · have hnb : ((xbn' : Int) == 1) = false := by rw [beq_eq_false_iff_ne]; omega
      clear hbl hf xm hbare
      go_enter Try.func22, Try.ntmps22
      go_wp2_with fail
      rw [HWW.out]
      go_loopw [3, 4] (fun p q v => p = .int .i64 xbn' ∧ q = .int .i64 0 ∧ Below W.heap.size W v) (fun _ _ _ => 0)
      case atStart => exact ⟨rfl, rfl, Below.refl _ _⟩
      case round =>
        obtain ⟨rfl, rfl, hbv⟩ := hrel
        obtain ⟨d0, d1, d2⟩ := HBX.out.go hbv
        simp only at d0 d1 d2
        have HBV := Hid.mk hbv
        clear hbv
        by_cases hmax : 16777215 < xbn'
        · have hmi : (xbn' : Int) > 16777215 := by omega
          have e : R0 = xbn' := by rw [← HR0.out, if_pos hmax]
          subst e
          go_wp2_with fail
          go_ret
          exact ⟨rfl, below_go HBN.out HBV.out⟩
        · have hmi : ¬ (xbn' : Int) > 16777215 := by omega
          have e : R0 = xbn' + (hd 0 xbn').length := by rw [← HR0.out, if_neg hmax, szOf_hd]
          have h4 := hd_le4 (base := 0) (n := xbn') (by omega)
          have hcal := rhead_any 0 xbn' (by omega) (by omega) wr
          rw [show ((0 : Nat) : Int) = 0 from rfl] at hcal
          obtain ⟨K, hK⟩ : ∃ K, (hd 0 xbn').length = K := ⟨_, rfl⟩
          rw [hK] at hcal e h4
          subst e
          have HC := Hid.mk hcal
          clear hcal hK
          go_wp2_with fail
          refine HC.out.mono ?_
          rintro e w2 ⟨rfl, _, hb2⟩
          have HB2 := Hid.mk (below_go HBV.out hb2)
          clear hb2
          go_wp2_with fail
          go_ret
          exact ⟨by simp, below_go HBN.out HB2.out⟩
  | true =>
    obtain ⟨hb, hfs⟩ := form_list hf
    subst hb
    simp only [if_true, Nat.zero_add] at hre
    rw [if_neg (by simp [bare])] at hre
    have HR0 := Hid.mk hre.symm
    have HFS := Hid.mk hfs
    have hrb : rszs its ≤ 1000000000000 := by
      rw [hre] at hbig
      split at hbig
      · exact hbig
      · have := szOf_ge true [] (rszs its); omega
    clear hre hf hfs hbl xm
    go_enter Try.func22, Try.ntmps22
    go_wp2_with fail
    rw [HWW.out]
    go_loopw [3, 4] (fun p q v => ∃ u : Nat, u ≤ xm' ∧ q = .int .i64 u ∧ p = .int .i64 (rszs (its.take u) : Nat) ∧ Below W.heap.size W v) (fun _ q _ => xm' - (intOf q).toNat)
    case atStart => exact ⟨0, by omega, rfl, by rw [List.take_zero, rszs_nil]; rfl, Below.refl _ _⟩
    case round =>
      obtain ⟨u, hu, rfl, rfl, hbv⟩ := hrel
      obtain ⟨d0, d1, d2⟩ := HBX.out.go hbv
      simp only at d0 d1 d2
      have HBV := Hid.mk hbv
      clear hbv
      by_cases hlt : u < xm'
      · have hui : (u : Int) < xm' := by omega
        obtain ⟨t, ht⟩ : ∃ t, its[u]? = some t := ⟨its[u]'(by have := HXM.out; omega), List.getElem?_eq_getElem _⟩
        obtain ⟨g, off, y, A⟩ := liesAll_at (lies_eq.1 HX.out).2.2.2.2.2.2 u t ht
        rw [Nat.zero_add] at A
        have ha : xia = some ⟨g, off, none⟩ := A.ha
        subst ha
        have y0 := below_cell HBV.out A.c0
        have y1 := below_cell HBV.out A.c1
        have y2 := below_cell HBV.out A.c2
        have hmem := List.mem_of_getElem? ht
        have hmore := rszs_more ht
        have hle := rszs_take (its := its) (u + 1)
        have hcal := HIH.out t hmem y wr (lies_mono HBV.out t y A.li) (forms_mem HFS.out t hmem) (by omega)
        obtain ⟨r1, hr1⟩ : ∃ r1, rszs (its.take u) = r1 := ⟨_, rfl⟩
        obtain ⟨r2, hr2⟩ : ∃ r2, rsz t = r2 := ⟨_, rfl⟩
        rw [hr1, hr2] at hmore
        rw [hr1]
        rw [hr2] at hcal
        have HC := Hid.mk hcal
        have HMO := Hid.mk hmore
        have hb1 : r1 + r2 ≤ 1000000000000 := by omega
        clear hcal ht A hmem hmore hle hr1 hr2
        go_wp2_with fail
        refine HC.out.mono ?_
        rintro e w1 ⟨rfl, hb2⟩
        have HB2 := Hid.mk (below_go HBV.out hb2)
        clear hb2
        go_wp2_with fail
        exact ⟨⟨u + 1, by omega, by simp, by rw [HMO.out]; simp, HB2.out⟩, by simp [intOf]; omega⟩
      · have hui : ¬ (u : Int) < xm' := by omega
        have htk : its.take u = its := List.take_of_length_le (by rw [← HXM.out]; omega)
        rw [htk]
        obtain ⟨S0, hS0⟩ : ∃ S0, rszs its = S0 := ⟨_, rfl⟩
        rw [hS0] at HR0 hrb ⊢
        clear htk hS0
        by_cases hmax : 16777215 < S0
        · have hmi : (S0 : Int) > 16777215 := by omega
          have e : R0 = S0 := by rw [← HR0.out, if_pos hmax]
          subst e
          go_wp2_with fail
          go_ret
          exact ⟨rfl, below_go HBN.out HBV.out⟩
        · have hmi : ¬ (S0 : Int) > 16777215 := by omega
          have e : R0 = S0 + (hd 0 S0).length := by rw [← HR0.out, if_neg hmax, szOf_hd]
          have h4 := hd_le4 (base := 0) (n := S0) (by omega)
          have hcal := rhead_any 0 S0 (by omega) (by omega) wr
          rw [show ((0 : Nat) : Int) = 0 from rfl] at hcal
          obtain ⟨K, hK⟩ : ∃ K, (hd 0 S0).length = K := ⟨_, rfl⟩
          rw [hK] at hcal e h4
          subst e
          have HC := Hid.mk hcal
          clear hcal hK
          go_wp2_with fail
          refine HC.out.mono ?_
          rintro e w2 ⟨rfl, _, hb2⟩
          have HB2 := Hid.mk (below_go HBV.out hb2)
          clear hb2
          go_wp2_with fail
          go_ret
          exact ⟨by simp, below_go HBN.out HB2.out⟩
theorem size_any : ∀ t, SizeSaid t := T.ind size_step
end Go.Proofs.Ytkbdkenpblcofaa

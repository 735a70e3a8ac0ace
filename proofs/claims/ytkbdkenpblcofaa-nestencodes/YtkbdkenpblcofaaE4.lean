/- What the document's Encode answers. -/
import Derived.Test.YtkbdkenpblcofaaE1
import Derived.Test.YtkbdkenpblcofaaE3
namespace Go.Proofs.Ytkbdkenpblcofaa
open Go.RowKit
set_option linter.unusedVariables false
theorem wk_small {l : Bool} {bs : List Int} {its : List T} (h : (wk (.mk l bs its) 0 0).2 = 0) : bs.length ≤ 16777215 ∧ szs its ≤ 167772150 ∧ rszs its ≤ szs its ∧ Like (rszs its) (szs its) := by
  have hf := wk_form _ 0 0 h
  obtain ⟨h1, h2, h3, h4⟩ := wk_ok h
  have hw := wrong_false h2
  have hb : bs.length ≤ 16777215 := by
    cases l with
    | true => have e : bs = [] := by simpa using hw
              rw [e]; simp
    | false => unfold wt at h3; simp at h3; omega
  have hfs : forms its = true := by
    cases l with
    | true => exact (form_list hf).2
    | false => rw [form_text hf, forms_nil]
  have hk := rszs_like fun t ht => rsz_like t (forms_mem hfs t ht)
  rw [h4] at h
  obtain ⟨W, hW⟩ : ∃ W, wks its 1 (0 + wt l bs 0) = (W, 0) := ⟨(wks its 1 (0 + wt l bs 0)).1, Prod.ext rfl h⟩
  have hbd := wks_bound (by omega) h3 hW
  exact ⟨hb, by omega, rszs_le hfs, hk⟩
set_option maxHeartbeats 4000000 in
theorem rencode_any (t : T) (x : V) (w : World) (hx : Lies w t x) :
    Calls Try.prog 10 #[.agg #[.bool x.l, .slice x.ba x.bn x.bc, .slice x.ia x.m x.ic]] w fun e w' => (∃ a n c, e = .returned (.tuple #[.slice a n c, .int .i64 ((encP t).2 : Nat)]) ∧ Ag w' a n c (encP t).1) ∧ Below w.heap.size w w' := by
  obtain ⟨l, bs, its⟩ := t
  have HBN := Hid.mk (below_new w (.cells #[.bool x.l, .slice x.ba x.bn x.bc, .slice x.ia x.m x.ic] 25))
  have HBX := Hid.mk (b1_new w x)
  have HX := Hid.mk (lies_mono HBN.out _ x hx)
  have xm := (lies_eq.1 hx).2.2.1
  have xm2 := (lies_eq.1 hx).2.2.2.2.2.1.2
  have hbl := (lies_eq.1 hx).2.1.l
  have HXM := Hid.mk xm
  have hcal := walk_any (.mk l bs its) x _ 0 0 HX.out (by omega) (by omega)
  rw [show ((0 : Nat) : Int) = 0 from rfl] at hcal
  obtain ⟨⟨ww, er⟩, hwk⟩ : ∃ r, wk (.mk l bs its) 0 0 = r := ⟨_, rfl⟩
  rw [hwk] at hcal
  simp only at hcal
  by_cases her : er = 0
  case neg =>
    have hm : mP (.mk l bs its) = (0, er) := by unfold mP; rw [hwk, if_pos (by simpa using her)]
    have he : encP (.mk l bs its) = ([], er) := by unfold encP; rw [hm, if_neg (by simpa using her)]
    rw [he]
    have hee : ((er : Int) != 0) = true := by rw [bne_iff_ne]; omega
    have HC := Hid.mk hcal
    clear hcal hm he hx hwk xm hbl xm2
    go_enter Try.func10, Try.ntmps10
    go_wp2_with fail
    refine HC.out.mono ?_
    rintro e w1 ⟨rfl, hb1⟩
    have HB1 := Hid.mk (below_go HBN.out hb1)
    clear hb1 HC
    go_wp2_with fail
    go_ret2
    exact ⟨⟨none, 0, 0, rfl, ag_nil _⟩, HB1.out⟩
  subst her
  rw [show ((0 : Nat) : Int) = 0 from rfl] at hcal
  have h0 : (wk (.mk l bs its) 0 0).2 = 0 := by rw [hwk]
  obtain ⟨s1, s2, s3, s4⟩ := wk_small h0
  have hfs : forms its = true := by
    have hf := wk_form _ 0 0 h0
    cases l with
    | true => exact (form_list hf).2
    | false => rw [form_text hf, forms_nil]
  have hmP : mP (.mk l bs its) = if 16777215 < bs.length + szs its then (0, 20) else (sz (.mk l bs its), 0) := by unfold mP; rw [if_neg (by rw [h0]; simp)]; rfl
  have hN : (16777215 < bs.length + szs its) ↔ (16777215 < bs.length + rszs its) := by unfold Like at s4; omega
  have hbody : (bodyOf (.mk l bs its)).length = bs.length + szs its := by rw [← szb_len (wk_form _ 0 0 h0)]; rfl
  obtain ⟨E, hE⟩ : ∃ E, encP (.mk l bs its) = E := ⟨_, rfl⟩
  rw [hE]
  have HEE : Hid (encP (.mk l bs its) = E) := Hid.mk hE
  have HMP := Hid.mk hmP
  have HN := Hid.mk hN
  have HBO := Hid.mk hbody
  have HFS := Hid.mk hfs
  have HC := Hid.mk hcal
  obtain ⟨xl, xba, xbn, xbc, xia, xm', xic⟩ := x
  simp only at xm2 hbl HBX HBN HX HXM HC
  have HBL := Hid.mk hbl
  obtain ⟨LB, hLB⟩ : ∃ LB, bs.length = LB := ⟨_, rfl⟩
  have hLx : LB = xbn := by omega
  subst hLx
  clear hcal hE hmP hN hbody hfs hx hwk h0 xm s4 hbl
  have HLB := Hid.mk hLB
  rw [hLB] at s1 HMP HN HBO
  clear hLB
  go_enter Try.func10, Try.ntmps10
  go_wp2_with fail
  refine HC.out.mono ?_
  rintro e w1 ⟨rfl, hb1⟩
  obtain ⟨c0, c1, c2⟩ := HBX.out.go hb1
  simp only at c0 c1 c2
  have HB1 := Hid.mk (below_go HBN.out hb1)
  have HX1 := Hid.mk (lies_mono hb1 _ _ HX.out)
  have HBX1 := Hid.mk (HBX.out.go hb1)
  clear hb1 HC HBX HX
  go_wp2_with fail
  go_loopw [6, 7] (fun p q v => ∃ u : Nat, u ≤ xm' ∧ q = .int .i64 u ∧ p = .int .i64 (LB + rszs (its.take u) : Nat) ∧ Below w1.heap.size w1 v) (fun _ q _ => xm' - (intOf q).toNat)
  case atStart => exact ⟨0, by omega, rfl, by rw [List.take_zero, rszs_nil]; rfl, Below.refl _ _⟩
  case round =>
    clear c0 c1 c2
    obtain ⟨u, hu, rfl, rfl, hbv⟩ := hrel
    obtain ⟨d0, d1, d2⟩ := HBX1.out.go hbv
    simp only at d0 d1 d2
    have HBV := Hid.mk hbv
    clear hbv
    by_cases hlt : u < xm'
    · have hui : (u : Int) < xm' := by omega
      obtain ⟨t, ht⟩ : ∃ t, its[u]? = some t := ⟨its[u]'(by have := HXM.out; omega), List.getElem?_eq_getElem _⟩
      obtain ⟨g, off, y, A⟩ := liesAll_at (lies_eq.1 HX1.out).2.2.2.2.2.2 u t ht
      rw [Nat.zero_add] at A
      have ha : xia = some ⟨g, off, none⟩ := A.ha
      subst ha
      have y0 := below_cell HBV.out A.c0
      have y1 := below_cell HBV.out A.c1
      have y2 := below_cell HBV.out A.c2
      have hmem := List.mem_of_getElem? ht
      have hmore := rszs_more ht
      have hle := rszs_take (its := its) (u + 1)
      have hcal := size_any t y wr (lies_mono HBV.out t y A.li) (forms_mem HFS.out t hmem) (by omega)
      obtain ⟨r1, hr1⟩ : ∃ r1, LB + rszs (its.take u) = r1 := ⟨_, rfl⟩
      obtain ⟨r2, hr2⟩ : ∃ r2, rsz t = r2 := ⟨_, rfl⟩
      have hmo : LB + rszs (its.take (u + 1)) = r1 + r2 := by omega
      rw [hr1]
      rw [hr2] at hcal
      have HC := Hid.mk hcal
      have HMO := Hid.mk hmo
      have hb1 : r1 + r2 ≤ 1000000000000 := by omega
      clear hcal ht A hmem hmore hle hr1 hr2 hmo
      go_wp2_with fail
      refine HC.out.mono ?_
      rintro e w2 ⟨rfl, hb2⟩
      have HB2 := Hid.mk (below_go HBV.out hb2)
      clear hb2
      go_wp2_with fail
      exact ⟨⟨u + 1, by omega, by simp, by rw [HMO.out]; simp, HB2.out⟩, by simp [intOf]; omega⟩
    · have hui : ¬ (u : Int) < xm' := by omega
      have htk : its.take u = its := List.take_of_length_le (by rw [← HXM.out]; omega)
      rw [htk]
      have hn := HN.out
      have hmp := HMP.out
      have hbo := HBO.out
      obtain ⟨S0, hS0⟩ : ∃ S0, LB + rszs its = S0 := ⟨_, rfl⟩
      rw [hS0] at hn ⊢
      clear htk
      by_cases hmax : 16777215 < S0
      · have hmi : (S0 : Int) > 16777215 := by omega
        rw [if_pos (hn.2 hmax)] at hmp
        have he : E = ([], 20) := by rw [← HEE.out]; unfold encP; rw [hmp, if_neg (by decide)]
        subst he
        clear hn hmp hbo hS0
        go_wp2_with fail
        go_ret2
        exact ⟨⟨none, 0, 0, rfl, ag_nil _⟩, below_go HB1.out HBV.out⟩
      · have hmi : ¬ (S0 : Int) > 16777215 := by omega
        have hng : ¬ 16777215 < LB + szs its := fun h => hmax (hn.1 h)
        rw [if_neg hng] at hmp
        have he : E = (enc (.mk l bs its), 0) := by rw [← HEE.out]; unfold encP; rw [hmp, if_pos rfl]
        subst he
        have hcal := rbytes_any (.mk l bs its) _ wr (lies_mono HBV.out _ _ HX1.out) (by omega)
        have HC := Hid.mk hcal
        clear hn hmp hbo hS0 hcal
        go_wp2_with fail
        refine HC.out.mono ?_
        rintro e w2 ⟨⟨a2, n2, c2, rfl, hag2⟩, hb2⟩
        have HA2 := Hid.mk hag2
        have HB2 := Hid.mk (below_go HBV.out hb2)
        clear hag2 hb2
        go_wp2_with fail
        go_ret2
        exact ⟨⟨a2, n2, c2, rfl, HA2.out⟩, below_go HB1.out HB2.out⟩
end Go.Proofs.Ytkbdkenpblcofaa

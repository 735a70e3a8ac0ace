/- What the document's head, body and Bytes answer. -/
import Derived.Test.YtmofehloiiopfaaG15
import Derived.Deep.CutRange
namespace Go.Proofs.Ytmofehloiiopfaa
open Go.RowKit
set_option linter.unusedVariables false
set_option maxRecDepth 100000
set_option maxHeartbeats 1000000 in
theorem rhead_any (base n : Nat) (hb : base ≤ 192) (hn : n < 16777216) (w : World) :
    Calls Try.prog 67 #[.int .i64 base, .int .i64 n] w fun e w' => e = .returned (.slice (some ⟨w.heap.size, 0, none⟩) (hd base n).length (hd base n).length) ∧ Row w.heap.size w' (hd base n) ∧ Below w.heap.size w w' := by
  by_cases h5 : n ≤ 55
  · have e : hd base n = [((base + n : Nat) : Int)] := by unfold hd; rw [if_pos h5]
    rw [e]
    have hi : (n : Int) ≤ 55 := by omega
    clear e
    go_enter Try.func67, Try.ntmps67
    go_wp2_with fail
    go_ret
    exact ⟨rfl, by unfold Row; rw [heap_alloc_new]; simp, (Below.refl _ _).alloc (Nat.le_refl _) _⟩
  have h5i : ¬ (n : Int) ≤ 55 := by omega
  by_cases h6 : n < 256
  · have e : hd base n = [((base + 56 : Nat) : Int), (n : Int)] := by
      unfold hd; rw [if_neg h5, be_one (by omega) h6, nb_one (by omega) h6]
    rw [e]
    have hi : (n : Int) < 256 := by omega
    clear e
    go_enter Try.func67, Try.ntmps67
    go_wp2_with fail
    go_ret
    exact ⟨rfl, by unfold Row; rw [heap_alloc_new]; simp, (Below.refl _ _).alloc (Nat.le_refl _) _⟩
  have h6i : ¬ (n : Int) < 256 := by omega
  by_cases h7 : n < 65536
  · have e : hd base n = [((base + 57 : Nat) : Int), ((n / 256 : Nat) : Int), ((n % 256 : Nat) : Int)] := by
      unfold hd; rw [if_neg h5, be_two (by omega) h7, nb_two (by omega) h7]
    rw [e]
    have hi : (n : Int) < 65536 := by omega
    have q1 : (n : Int) / 256 < 256 := by omega
    clear e
    go_enter Try.func67, Try.ntmps67
    go_wp2_with fail
    go_ret
    exact ⟨rfl, by unfold Row; rw [heap_alloc_new]; simp, (Below.refl _ _).alloc (Nat.le_refl _) _⟩
  have h7i : ¬ (n : Int) < 65536 := by omega
  have e : hd base n = [((base + 58 : Nat) : Int), ((n / 65536 : Nat) : Int), ((n / 256 % 256 : Nat) : Int), ((n % 256 : Nat) : Int)] := by
    unfold hd; rw [if_neg h5, be_three (by omega) hn, nb_three (by omega) hn]
  rw [e]
  have q1 : (n : Int) / 65536 < 256 := by omega
  clear e
  go_enter Try.func67, Try.ntmps67
  go_wp2_with fail
  go_ret
  exact ⟨rfl, by unfold Row; rw [heap_alloc_new]; simp, (Below.refl _ _).alloc (Nat.le_refl _) _⟩
theorem ownB_nil2 (w : World) (base : Nat) : OwnB w base (.slice none 0 0) [] := ⟨rfl, .inl ⟨rfl, rfl⟩⟩
theorem row_own {w : World} {g : Nat} {bs : List Int} (h : Row g w bs) (base : Nat) (hb : base ≤ g) (hl : bs.length ≤ 1000) : OwnB w base (.slice (some ⟨g, 0, none⟩) bs.length bs.length) bs := by
  refine ⟨by rw [List.length_map, Nat.mul_one], .inr ⟨g, bs.length, _, rfl, hb, h, Nat.le_refl _, by unfold maxLen; omega, by simp, by rw [Nat.mul_one]; exact List.take_of_length_le (by simp)⟩⟩
theorem hd_le4 {base n : Nat} (h : n < 16777216) : (hd base n).length ≤ 4 := by
  rw [hd_len]
  have := nb_le3 h
  split <;> omega
theorem hd_bd {base n : Nat} (hb : base ≤ 192) (hn : n < 16777216) : ∀ z ∈ hd base n, 0 ≤ z ∧ z < 256 := by
  have h3 := nb_le3 hn
  unfold hd
  split
  · intro z hz
    have e : z = ((base + n : Nat) : Int) := by simpa using hz
    omega
  · intro z hz
    rcases List.mem_cons.1 hz with e | hz
    · omega
    · exact be_bounds n z hz
/-- Not in older memory. -/
def Nw (base : Nat) (a : Option Addr) : Prop := ∀ g off, a = some ⟨g, off, none⟩ → base ≤ g
theorem OwnB.agn {w : World} {base : Nat} {v : Value} {bs : List Int} (h : OwnB w base v bs) (hb : ∀ x ∈ bs, 0 ≤ x ∧ x < 256) : ∃ a cap, v = .slice a bs.length cap ∧ Ag w a bs.length cap bs ∧ Nw base a := by
  obtain ⟨a, cap, e, hag⟩ := OwnB.ag h hb
  refine ⟨a, cap, e, hag, fun g off ha => ?_⟩
  subst ha
  rw [e] at h
  exact OwnB.lt h g rfl
theorem Nw.mono {b b' : Nat} {a : Option Addr} (h : Nw b a) (hb : b' ≤ b) : Nw b' a := fun g off e => Nat.le_trans hb (h g off e)
def BytesSaid (t : T) : Prop := ∀ (x : V) (w : World), Lies w t x → (bodyOf t).length ≤ 16777215 →
  Calls Try.prog 47 #[.agg #[.bool x.l, .slice x.ba x.bn x.bc, .slice x.ia x.m x.ic]] w fun e w' => (∃ a n c, e = .returned (.slice a n c) ∧ Ag w' a n c (enc t) ∧ (x.l = true → Nw w.heap.size a)) ∧ Below w.heap.size w w'
/-- What has been gathered of a body. -/
structure Gb (W : World) (B : Nat) (bs : List Int) (its : List T) (j : Nat) (q : Value) (v : World) (cur : List Int) : Prop where
  own : OwnB v B q cur
  eq : cur = bs ++ encs (its.take j)
  bel : Below B W v
  by8 : ∀ x ∈ cur, 0 ≤ x ∧ x < 256
set_option maxHeartbeats 4000000 in
theorem rbody_step (l : Bool) (bs : List Int) (its : List T) (ih : ∀ t ∈ its, BytesSaid t) (x : V) (w : World) (hx : Lies w (.mk l bs its) x) (hlen : (bs ++ encs its).length ≤ 16777215) :
    Calls Try.prog 66 #[.agg #[.bool x.l, .slice x.ba x.bn x.bc, .slice x.ia x.m x.ic]] w fun e w' => (∃ a n c, e = .returned (.slice a n c) ∧ Ag w' a n c (bs ++ encs its)) ∧ Below w.heap.size w w' := by
  obtain ⟨xl, xag, xm, xic, xic2, ⟨xbn, xm2⟩, xall⟩ := lies_eq.1 hx
  have HBN := Hid.mk (below_new w (.cells #[.bool x.l, .slice x.ba x.bn x.bc, .slice x.ia x.m x.ic] 45))
  have HBX := Hid.mk (b1_new w x)
  have HX := Hid.mk (lies_mono HBN.out _ x hx)
  have HAG := Hid.mk (xag.at HBN.out)
  have HXM := Hid.mk xm
  have HIH := Hid.mk ih
  have HLEN := Hid.mk hlen
  have hbl := xag.l
  rw [List.length_append] at hlen
  obtain ⟨W, hW⟩ : ∃ W, w.alloc (.cells #[.bool x.l, .slice x.ba x.bn x.bc, .slice x.ia x.m x.ic] 45) = W := ⟨_, rfl⟩
  have hsz : W.heap.size = w.heap.size + 1 := by rw [← hW]; simp
  have HWW := Hid.mk hW
  rw [hW] at HBN HBX HX HAG
  clear hx xag xall xm xl ih xic xic2 hW
  obtain ⟨xl, xba, xbn', xbc, xia, xm', xic'⟩ := x
  simp only at xbn xm2 HBX HX HAG HXM hbl HWW
  obtain ⟨c0, c1, c2⟩ := HBX.out
  simp only at c0 c1 c2
  go_enter Try.func66, Try.ntmps66
  go_upto_region 2 with fail
  rw [HWW.out]
  go_wp2_with (first | (at_builtin; refine app_any rfl (.tmp 5) (.tmp 7) rfl W.heap.size _ [] rfl (ownB_nil2 W _) xba xbn' xbc bs rfl HAG.out.i HAG.out.nil HAG.out.l (by simp; omega) (Nat.le_refl _) ?_; intro v1 w1 o1 hb1; rw [List.nil_append] at o1; have HO1 := Hid.mk o1; have HB1 := Hid.mk hb1; clear o1 hb1))
  go_loopw [3, 4] (fun q i v => ∃ (j : Nat) (cur : List Int), j ≤ xm' ∧ i = .int .i64 j ∧ Gb W W.heap.size bs its j q v cur) (fun _ i _ => xm' - (intOf i).toNat)
  case atStart => exact ⟨0, bs, by omega, rfl, ⟨HO1.out, by rw [List.take_zero, encs_nil, List.append_nil], HB1.out, HAG.out.b⟩⟩
  case round =>
    clear HO1 HB1
    obtain ⟨j, cur, hj, rfl, G⟩ := hrel
    obtain ⟨d0, d1, d2⟩ := HBX.out.go G.bel
    simp only at d0 d1 d2
    have HG := Hid.mk G
    clear G
    by_cases hlt : j < xm'
    · have hji : (j : Int) < xm' := by omega
      obtain ⟨t, ht⟩ : ∃ t, its[j]? = some t := ⟨its[j]'(by have := HXM.out; omega), List.getElem?_eq_getElem _⟩
      obtain ⟨g, off, y, A⟩ := liesAll_at (lies_eq.1 HX.out).2.2.2.2.2.2 j t ht
      rw [Nat.zero_add] at A
      have ha : xia = some ⟨g, off, none⟩ := A.ha
      subst ha
      have y0 := below_cell HG.out.bel A.c0
      have y1 := below_cell HG.out.bel A.c1
      have y2 := below_cell HG.out.bel A.c2
      have hmem := List.mem_of_getElem? ht
      have a1 := body_le_enc t
      have a2 := encs_mem_le hmem
      have hcal := HIH.out t hmem y wr (lies_mono HG.out.bel t y A.li) (by omega)
      have hcl : (cur ++ enc t).length ≤ 16777215 := by
        rw [HG.out.eq, List.append_assoc]
        have e1 : encs (its.take (j + 1)) = encs (its.take j) ++ enc t := by rw [take_succ_get ht, encs_append, encs_cons, encs_nil, List.append_nil]
        have e2 : (encs (its.take (j + 1) ++ its.drop (j + 1))).length = (encs its).length := by rw [List.take_append_drop]
        rw [encs_append, List.length_append, e1, List.length_append] at e2
        rw [List.length_append, List.length_append]
        omega
      rw [List.length_append] at hcl
      have HC := Hid.mk hcal
      have HT := Hid.mk ht
      clear hcal ht A a1 a2 hmem
      go_wp2_with fail
      refine HC.out.mono ?_
      rintro e w1 ⟨⟨a1, n1, c1', rfl, hag1, -⟩, hb1⟩
      have hl1 := hag1.l
      have HA1 := Hid.mk hag1
      have HO1 := Hid.mk (HG.out.own.below hb1)
      have hbb := HG.out.bel.trans (hb1.mono HG.out.bel.size)
      have HB1 := Hid.mk hbb
      have HMEM := Hid.mk (mem_app HG.out.by8 hag1.b)
      clear hag1 hb1 hbb HC d0 d1 d2 c0 c1 c2
      go_wp2_with (first | (at_builtin; refine app_any rfl (.tmp 16) (.tmp 22) rfl W.heap.size _ cur rfl HO1.out a1 n1 c1' (enc t) rfl HA1.out.i HA1.out.nil HA1.out.l (by omega) HB1.out.size ?_; intro v2 w2 o2 hb2; obtain ⟨a2, c2', rfl, hag2⟩ := OwnB.ag o2 HMEM.out; have HO2 := Hid.mk o2; have HB2 := Hid.mk (HB1.out.trans hb2); clear o2 hb2 hag2; generalize hgl : (cur ++ enc t).length = len2 at HO2 ⊢; clear hgl))
      refine ⟨⟨j + 1, cur ++ enc t, by omega, by simp, ⟨HO2.out, ?_, HB2.out, HMEM.out⟩⟩, by simp [intOf]; omega⟩
      rw [HG.out.eq, take_succ_get HT.out, encs_append, encs_cons, encs_nil, List.append_nil, List.append_assoc]
    · have hji : ¬ (j : Int) < xm' := by omega
      have htk : its.take j = its := List.take_of_length_le (by rw [← HXM.out]; omega)
      have heq := HG.out.eq
      rw [htk] at heq
      subst heq
      obtain ⟨ba, bc, hq, hagb⟩ := OwnB.ag HG.out.own HG.out.by8
      subst hq
      have HAB := Hid.mk hagb
      obtain ⟨L, hL⟩ : ∃ L, (bs ++ encs its).length = L := ⟨_, rfl⟩
      rw [hL] at HAB ⊢
      clear hagb htk hL
      go_wp2_with fail
      go_ret
      exact ⟨⟨_, _, _, rfl, HAB.out⟩, HBN.out.trans (HG.out.bel.mono (by omega))⟩
set_option maxHeartbeats 4000000 in
theorem rbytes_step (l : Bool) (bs : List Int) (its : List T) (ih : ∀ t ∈ its, BytesSaid t) : BytesSaid (.mk l bs its) := by
  intro x w hx hlen
  have hlen2 : (bs ++ encs its).length ≤ 16777215 := hlen
  have xl := (lies_eq.1 hx).1
  have HBN := Hid.mk (below_new w (.cells #[.bool x.l, .slice x.ba x.bn x.bc, .slice x.ia x.m x.ic] 45))
  have HBX := Hid.mk (b1_new w x)
  have hcal := rbody_step l bs its ih x _ (lies_mono HBN.out _ x hx) hlen2
  have HC := Hid.mk hcal
  have henc := enc_eq l bs its
  obtain ⟨body, hbody⟩ : ∃ body, bs ++ encs its = body := ⟨_, rfl⟩
  rw [hbody] at HC henc hlen2
  obtain ⟨E, hE⟩ : ∃ E, enc (.mk l bs its) = E := ⟨_, rfl⟩
  rw [hE]
  rw [hE] at henc
  have HEN := Hid.mk henc
  obtain ⟨xl', xba, xbn, xbc, xia, xm, xic⟩ := x
  simp only at xl HC HBX HBN
  subst xl
  clear hx hcal henc hbody hlen ih hE
  go_enter Try.func47, Try.ntmps47
  go_wp2_with fail
  refine HC.out.mono ?_
  rintro e w1 ⟨⟨a1, n1, c1, rfl, hag1⟩, hb1⟩
  obtain ⟨d0, d1, d2⟩ := HBX.out.go hb1
  simp only at d0 d1 d2
  have HB1 := Hid.mk (below_go HBN.out hb1)
  have hl1 := hag1.l
  have HA1 := Hid.mk hag1
  have hfull : ∀ (base : Nat), base = baseOf xl' → base ≤ 192 → ∀ w2, Below w1.heap.size w1 w2 → Row w1.heap.size w2 (hd base n1) → OwnB w2 w1.heap.size (.slice (some ⟨w1.heap.size, 0, none⟩) (hd base n1).length (hd base n1).length) (hd base n1) ∧ (hd base n1).length ≤ 4 ∧ ∀ z ∈ hd base n1 ++ body, 0 ≤ z ∧ z < 256 := by
    intro base _ hb w2 _ hrow
    have h4 := hd_le4 (base := base) (n := n1) (by omega)
    exact ⟨row_own hrow _ (Nat.le_refl _) (by omega), h4, mem_app (hd_bd hb (by omega)) hag1.b⟩
  have HF := Hid.mk hfull
  clear hag1 hb1 HC hfull HBX HBN
  have hn24 : n1 < 16777216 := by omega
  by_cases hbare : bare xl' body = true
  · have hbr := hbare
    unfold bare at hbr
    simp only [Bool.and_eq_true, decide_eq_true_eq] at hbr
    obtain ⟨b1, b2, b3⟩ := hbr
    have bx : xl' = false := by simpa using b1
    subst bx
    have hn1 : n1 = 1 := by omega
    subst hn1
    have HRE : Hid (E = body) := Hid.mk (by rw [HEN.out, if_pos hbare])
    obtain ⟨g, off, rfl, hc1, hc2, hc⟩ := ag_head HA1.out (by omega)
    unfold maxLen at hc2
    have hc0 := hc 0 (by omega)
    rw [Nat.add_zero] at hc0
    have hh : body.getD 0 0 = body.headD 0 := by cases body <;> rfl
    have hz := (HA1.out.b (body.getD 0 0) (by rw [List.getD, List.getElem?_eq_getElem (by omega)]; exact List.getElem_mem _)).1
    rw [← hh] at b3
    generalize body.getD 0 0 = z at *
    clear hc hbare b1 b2 hh hl1
    go_wp2_with fail
    go_ret
    exact ⟨⟨_, _, _, rfl, by rw [HRE.out]; exact HA1.out, by first | exact (fun h => by cases h) | simp⟩, HB1.out⟩
  cases xl' with
  | true =>
    have HRE : Hid (E = hd 192 n1 ++ body) := Hid.mk (by rw [HEN.out, if_neg hbare, hl1]; rfl)
    clear hbare hl1
    go_wp2_with fail
    refine (rhead_any 192 n1 (by decide) (by omega) _).mono ?_
    rintro e w2 ⟨rfl, hrow, hb2⟩
    obtain ⟨o2, h4, h256⟩ := HF.out 192 rfl (by decide) w2 hb2 hrow
    have HO2 := Hid.mk o2
    have H256 := Hid.mk h256
    have HA2 := Hid.mk (HA1.out.at hb2)
    have HB2 := Hid.mk (below_go HB1.out hb2)
    have hz := HB1.out.size
    have hz2 := hb2.size
    obtain ⟨K, hK⟩ : ∃ K, (hd 192 n1).length = K := ⟨_, rfl⟩
    rw [hK] at HO2 h4 ⊢
    have HKK := Hid.mk hK
    clear o2 h256 hrow hb2 hK
    go_wp2_with (first | (at_builtin; refine app_any rfl (.tmp 29) (.tmp 30) rfl w1.heap.size _ (hd 192 n1) rfl HO2.out _ n1 c1 body rfl HA2.out.i HA2.out.nil HA2.out.l (by rw [HKK.out]; omega) hz2 ?_; intro v3 w3 o3 hb3; obtain ⟨a3, c3, rfl, hag3, hnw3⟩ := OwnB.agn o3 H256.out; have HNW := Hid.mk (hnw3.mono hz); have HA3 := Hid.mk hag3; have HB3 := Hid.mk (HB2.out.trans (hb3.mono hz)); clear o3 hag3 hb3 hnw3; generalize hgl : (hd 192 n1 ++ body).length = len3 at HA3 ⊢; clear hgl))
    go_ret
    exact ⟨⟨_, _, _, rfl, by rw [HRE.out]; exact HA3.out, by first | exact HNW.out | exact fun _ => HNW.out⟩, HB3.out⟩
  | false =>
    have HRE : Hid (E = hd 128 n1 ++ body) := Hid.mk (by rw [HEN.out, if_neg hbare, hl1]; rfl)
    by_cases hn1 : n1 = 1
    · have hnb : ((n1 : Int) == 1) = true := by rw [beq_iff_eq]; omega
      have hnp : 0 < n1 := by omega
      obtain ⟨g, off, rfl, hc1, hc2, hc⟩ := ag_head HA1.out (by omega)
      unfold maxLen at hc2
      have hc0 := hc 0 (by omega)
      rw [Nat.add_zero] at hc0
      have hh : body.getD 0 0 = body.headD 0 := by cases body <;> rfl
      have hz := (HA1.out.b (body.getD 0 0) (by rw [List.getD, List.getElem?_eq_getElem (by omega)]; exact List.getElem_mem _)).2
      have hge : ¬ body.getD 0 0 < 128 := fun h => hbare (by unfold bare; rw [← hh, decide_eq_true h, decide_eq_true (show body.length = 1 by omega)]; rfl)
      generalize body.getD 0 0 = z at *
      clear hc hbare hh hl1 hn1
      go_wp2_with fail
      refine (rhead_any 128 n1 (by decide) (by omega) _).mono ?_
      rintro e w2 ⟨rfl, hrow, hb2⟩
      obtain ⟨o2, h4, h256⟩ := HF.out 128 rfl (by decide) w2 hb2 hrow
      have HO2 := Hid.mk o2
      have H256 := Hid.mk h256
      have HA2 := Hid.mk (HA1.out.at hb2)
      have HB2 := Hid.mk (below_go HB1.out hb2)
      have hz := HB1.out.size
      have hz2 := hb2.size
      obtain ⟨K, hK⟩ : ∃ K, (hd 128 n1).length = K := ⟨_, rfl⟩
      rw [hK] at HO2 h4 ⊢
      have HKK := Hid.mk hK
      clear o2 h256 hrow hb2 hK
      go_wp2_with (first | (at_builtin; refine app_any rfl (.tmp 29) (.tmp 30) rfl w1.heap.size _ (hd 128 n1) rfl HO2.out _ n1 c1 body rfl HA2.out.i HA2.out.nil HA2.out.l (by rw [HKK.out]; omega) hz2 ?_; intro v3 w3 o3 hb3; obtain ⟨a3, c3, rfl, hag3⟩ := OwnB.ag o3 H256.out; have HA3 := Hid.mk hag3; have HB3 := Hid.mk (HB2.out.trans (hb3.mono hz)); clear o3 hag3 hb3; generalize hgl : (hd 128 n1 ++ body).length = len3 at HA3 ⊢; clear hgl))
      go_ret
      exact ⟨⟨_, _, _, rfl, by rw [HRE.out]; exact HA3.out, by first | exact (fun h => by cases h) | simp⟩, HB3.out⟩
    · have hnb : ((n1 : Int) == 1) = false := by rw [beq_eq_false_iff_ne]; omega
      clear hbare hl1
      go_wp2_with fail
      refine (rhead_any 128 n1 (by decide) (by omega) _).mono ?_
      rintro e w2 ⟨rfl, hrow, hb2⟩
      obtain ⟨o2, h4, h256⟩ := HF.out 128 rfl (by decide) w2 hb2 hrow
      have HO2 := Hid.mk o2
      have H256 := Hid.mk h256
      have HA2 := Hid.mk (HA1.out.at hb2)
      have HB2 := Hid.mk (below_go HB1.out hb2)
      have hz := HB1.out.size
      have hz2 := hb2.size
      obtain ⟨K, hK⟩ : ∃ K, (hd 128 n1).length = K := ⟨_, rfl⟩
      rw [hK] at HO2 h4 ⊢
      have HKK := Hid.mk hK
      clear o2 h256 hrow hb2 hK
      go_wp2_with (first | (at_builtin; refine app_any rfl (.tmp 29) (.tmp 30) rfl w1.heap.size _ (hd 128 n1) rfl HO2.out _ n1 c1 body rfl HA2.out.i HA2.out.nil HA2.out.l (by rw [HKK.out]; omega) hz2 ?_; intro v3 w3 o3 hb3; obtain ⟨a3, c3, rfl, hag3⟩ := OwnB.ag o3 H256.out; have HA3 := Hid.mk hag3; have HB3 := Hid.mk (HB2.out.trans (hb3.mono hz)); clear o3 hag3 hb3; generalize hgl : (hd 128 n1 ++ body).length = len3 at HA3 ⊢; clear hgl))
      go_ret
      exact ⟨⟨_, _, _, rfl, by rw [HRE.out]; exact HA3.out, by first | exact (fun h => by cases h) | simp⟩, HB3.out⟩
theorem rbytes_any : ∀ t, BytesSaid t := T.ind rbytes_step
end Go.Proofs.Ytmofehloiiopfaa
/- What the document's reader answers: copied, and first for bytes that are no list. -/
namespace Go.Proofs.Ytmofehloiiopfaa
open Go.RowKit
set_option linter.unusedVariables false
set_option maxRecDepth 100000
theorem ownB_nil (w : World) (base : Nat) : OwnB w base (.slice none 0 0) [] := ⟨rfl, .inl ⟨rfl, rfl⟩⟩
theorem ownB_block {w : World} {base : Nat} {a : Option Addr} {n c : Nat} {bs : List Int} (h : OwnB w base (.slice a n c) bs) : ∀ g off, a = some ⟨g, off, none⟩ → base ≤ g ∧ ∀ o, w.frozen? ⟨g, o, none⟩ = false := by
  intro g off e
  subst e
  refine ⟨h.lt g rfl, fun o => ?_⟩
  rcases h.2 with ⟨h2, _⟩ | ⟨g', cap, cur, hv, _, hh, _⟩
  · cases h2
  · injection hv with e1 _ _
    cases e1
    exact frozen_of_row _ _ _ _ _ hh
theorem copied_any (a : Option Addr) (n c : Nat) (b : List Int) (w : World) (h : Ag w a n c b) (hn : n ≤ 140737488351232) :
    Calls Try.prog 79 #[.slice a n c] w fun e w' => (∃ a' c', e = .returned (.slice a' n c') ∧ Ag w' a' n c' b ∧ ∀ g off, a' = some ⟨g, off, none⟩ → w.heap.size ≤ g ∧ ∀ o, w'.frozen? ⟨g, o, none⟩ = false) ∧ Below w.heap.size w w' := by
  have HA := Hid.mk h
  clear h
  go_enter Try.func79, Try.ntmps79
  go_wp2_with (first | (at_builtin; refine app_any rfl (.tmp 4) (.tmp 5) rfl w.heap.size _ [] rfl (ownB_nil w _) a n c b rfl HA.out.i HA.out.nil HA.out.l (by simp; omega) (Nat.le_refl _) ?_; intro v1 w1 o1 hb1; rw [List.nil_append] at o1; obtain ⟨a1, c1, rfl, hag1⟩ := OwnB.ag o1 HA.out.b; rw [HA.out.l] at hag1 ⊢; have HB1 := Hid.mk hb1; have HA1 := Hid.mk hag1; have HO1 := Hid.mk (ownB_block o1); clear o1 hb1 hag1))
  go_ret
  exact ⟨⟨a1, c1, rfl, HA1.out, HO1.out⟩, HB1.out⟩
/-- A piece of bytes. -/
def pc (b : List Int) (i j : Nat) : List Int := (b.take j).drop i
theorem pc_len {b : List Int} {i j : Nat} (h : j ≤ b.length) : (pc b i j).length = j - i := by unfold pc; rw [List.length_drop, List.length_take]; omega
theorem pc_nil {b : List Int} {i j : Nat} (h : j ≤ i) : pc b i j = [] := by unfold pc; rw [List.drop_of_length_le]; rw [List.length_take]; omega
theorem pc_cons {b : List Int} {i j : Nat} (h : i < j) (hj : j ≤ b.length) : pc b i j = b.getD i 0 :: pc b (i + 1) j := by
  unfold pc
  rw [List.drop_eq_getElem_cons (by rw [List.length_take]; omega), List.getElem_take, List.getD, List.getElem?_eq_getElem (by omega)]
  rfl
theorem pc_sub {b : List Int} {i j f t : Nat} (h : i + t ≤ j) : ((pc b i j).take t).drop f = pc b (i + f) (i + t) := by
  unfold pc
  rw [List.take_drop, List.drop_drop, List.take_take, Nat.min_eq_left h]
theorem pc_get {b : List Int} {i j k : Nat} (h : i + k < j) (hj : j ≤ b.length) : (pc b i j).getD k 0 = b.getD (i + k) 0 := by
  unfold pc
  rw [List.getD, List.getElem?_drop, List.getElem?_take_of_lt h]
  rfl
theorem pc_mem {b : List Int} {i j : Nat} {x : Int} (h : x ∈ pc b i j) : x ∈ b := List.mem_of_mem_take (List.mem_of_mem_drop h)
def zeroV : Value := .agg #[.bool false, .slice none 0 0, .slice none 0 0]
/-- What first leaves. -/
def FPost (w : World) (i : Nat) (r : R) : Ending → World → Prop := fun e w' => Below w.heap.size w w' ∧
  match r with
  | .bad er => e = .returned (.tuple #[.agg #[.bool false, .slice none 0 0, .slice none 0 0], .int .i64 0, .int .i64 (er : Nat)]) ∧ er ≠ 0
  | .ok t m => ∃ y : V, e = .returned (.tuple #[.agg #[.bool y.l, .slice y.ba y.bn y.bc, .slice y.ia y.m y.ic], .int .i64 (i + m : Nat), .int .i64 0]) ∧ LiesP (fun b => w.heap.size ≤ b) w' t y
def FSaid (k : Nat) : Prop := ∀ (a : Option Addr) (n c : Nat) (b : List Int) (w : World), Ag w a n c b → n ≤ 140737488351232 → ∀ i j d : Nat, i ≤ j → j ≤ n → d + k = 8 →
  Calls Try.prog 70 #[.slice a n c, .int .i64 i, .int .i64 j, .int .i64 d] w (FPost w i (rd k (pc b i j)))
/-- What items leaves. -/
def GPost (w : World) (j : Nat) (r : RL) : Ending → World → Prop := fun e w' => Below w.heap.size w w' ∧
  match r with
  | .bad er => e = .returned (.tuple #[.agg #[.bool false, .slice none 0 0, .slice none 0 0], .int .i64 0, .int .i64 (er : Nat)]) ∧ er ≠ 0
  | .ok ts => ∃ ia ic, e = .returned (.tuple #[.agg #[.bool true, .slice none 0 0, .slice ia ts.length ic], .int .i64 j, .int .i64 0]) ∧ ts.length ≤ ic ∧ ic ≤ maxLen ∧ LiesPAll (fun b => w.heap.size ≤ b) w' ts ia 0
theorem lenIn_long {r : List Int} {c : Nat} (h : 3 < c) : lenIn r c = (0, 23) := by unfold lenIn; rw [if_pos h]
theorem lenIn_short {r : List Int} {c : Nat} (h : ¬ 3 < c) (h2 : r.length < c) : lenIn r c = (0, 22) := by unfold lenIn; rw [if_neg h, if_pos h2]
theorem lenIn_form {r : List Int} {c : Nat} (h : ¬ 3 < c) (h2 : ¬ r.length < c) (h3 : r.headD 0 = 0 ∨ val (r.take c) ≤ 55) : lenIn r c = (0, 23) := by unfold lenIn; rw [if_neg h, if_neg h2, if_pos h3]
theorem lenIn_good {r : List Int} {c : Nat} (h : ¬ 3 < c) (h2 : ¬ r.length < c) (h3 : ¬ (r.headD 0 = 0 ∨ val (r.take c) ≤ 55)) : lenIn r c = (val (r.take c), 0) := by unfold lenIn; rw [if_neg h, if_neg h2, if_neg h3]
theorem hdr_mid {deep : Bool} {x : Int} {r : List Int} (h1 : ¬ (192 ≤ x ∧ deep = true)) (h2 : ¬ x < 128) : hdr deep (x :: r) = if 55 < nOf x then (if (lenIn r (nOf x - 55)).2 ≠ 0 then .bad (lenIn r (nOf x - 55)).2 else if (x :: r).length - (1 + (nOf x - 55)) < (lenIn r (nOf x - 55)).1 then .bad 22 else .ok (1 + (nOf x - 55)) (1 + (nOf x - 55) + (lenIn r (nOf x - 55)).1)) else if (x :: r).length - 1 < nOf x then .bad 22 else .ok 1 (1 + nOf x) := by
  unfold hdr
  simp only
  rw [if_neg h1, if_neg h2]
/-- What is known of the head. -/
structure Hd (deep : Bool) (x : Int) (r : List Int) (f L : Nat) : Prop where
  f1 : 1 ≤ f
  f4 : f ≤ 4
  L24 : L < 16777216
  iff : f = 1 ↔ L ≤ 55
  fle : f ≤ r.length + 1
  eq : hdr deep (x :: r) = if (r.length + 1) - f < L then .bad 22 else .ok f (f + L)
theorem hd_one {deep : Bool} {x : Int} {r : List Int} (h1 : ¬ (192 ≤ x ∧ deep = true)) (h2 : ¬ x < 128) (h3 : ¬ 55 < nOf x) : Hd deep x r 1 (nOf x) :=
  ⟨Nat.le_refl _, by omega, by omega, by omega, by omega, by rw [hdr_mid h1 h2, if_neg h3]; rfl⟩
theorem hd_more {deep : Bool} {x : Int} {r : List Int} (hb : ∀ y ∈ r, 0 ≤ y ∧ y < 256) (h1 : ¬ (192 ≤ x ∧ deep = true)) (h2 : ¬ x < 128) (h3 : 55 < nOf x) (h4 : ¬ 3 < nOf x - 55) (h5 : ¬ r.length < nOf x - 55) (h6 : ¬ (r.headD 0 = 0 ∨ val (r.take (nOf x - 55)) ≤ 55)) : Hd deep x r (1 + (nOf x - 55)) (val (r.take (nOf x - 55))) := by
  have hv := val_take hb (j := nOf x - 55) (by omega) (by omega)
  refine ⟨by omega, by omega, by omega, by omega, by omega, ?_⟩
  rw [hdr_mid h1 h2, if_pos h3, lenIn_good h4 h5 h6]
  simp only [ne_eq, not_true, if_false]
  rfl
theorem hd_bad {deep : Bool} {x : Int} {r : List Int} {er : Nat} (h1 : ¬ (192 ≤ x ∧ deep = true)) (h2 : ¬ x < 128) (h3 : 55 < nOf x) (h4 : lenIn r (nOf x - 55) = (0, er)) (her : er ≠ 0) : hdr deep (x :: r) = .bad er := by
  rw [hdr_mid h1 h2, if_pos h3, h4]
  simp only
  rw [if_pos her]
theorem rd1_bad {g : List Int → R} {deep : Bool} {b : List Int} {e : Nat} (h : hdr deep b = .bad e) : rd1 g deep b = .bad e := by unfold rd1; rw [h]
end Go.Proofs.Ytmofehloiiopfaa
/- What the document's first answers, for bytes that begin with a text, or with nothing. -/
namespace Go.Proofs.Ytmofehloiiopfaa
open Go.RowKit
set_option linter.unusedVariables false
set_option maxRecDepth 100000
theorem rfirst_end (a : Option Addr) (n c i j d : Nat) (w : World) (k : Nat) (b : List Int) (hij : ¬ i < j) (hi : i ≤ 140737488351232) (hrd : rd k (pc b i j) = .bad 22) :
    Calls Try.prog 70 #[.slice a n c, .int .i64 i, .int .i64 j, .int .i64 d] w (FPost w i (rd k (pc b i j))) := by
  rw [hrd]
  have hge : (i : Int) ≥ j := by omega
  clear hrd
  go_enter Try.func70, Try.ntmps70
  go_upto_if 18 with fail
  refine gen_w (p := fun v => Code.wp _ _ _ _ v) (q := Rb w) (Rb.new w) ?_
  intro v R
  have x0 := R.x0
  have x1 := R.x1
  have x2 := R.x2
  have xf := R.xf
  have HR := Hid.mk R
  clear R
  go_wp2_with fail
  have hr := put3 HR.out.row (.bool false) (.slice none 0 0) (.slice none 0 0)
  refine bodyPost_ret (results_row3 Try.results70 _ _ w.heap.size _ _ _ rfl hr) rfl ?_
  exact ⟨below3 HR.out.bel (Nat.le_refl _) _ _ _, rfl, by decide⟩
theorem rfirst_deep (a : Option Addr) (n c i j : Nat) (w : World) (b : List Int) (h : Ag w a n c b) (hn : n ≤ 140737488351232) (hij : i < j) (hj : j ≤ n) (x : Int) (hx : b.getD i 0 = x) (h192 : 192 ≤ x) (res : R) (hres : res = .bad 21) :
    Calls Try.prog 70 #[.slice a n c, .int .i64 i, .int .i64 j, .int .i64 8] w (FPost w i res) := by
  subst hres
  obtain ⟨g, off, rfl, hc1, hc2, hc⟩ := ag_head h (by omega)
  unfold maxLen at hc2
  have hcell := hc i (by omega)
  rw [hx] at hcell
  have hxb := (h.b x (by rw [← hx, List.getD, List.getElem?_eq_getElem (by rw [h.l]; omega)]; exact List.getElem_mem _)).2
  have hlt : (i : Int) < j := by omega
  have hin : (i : Int) < n := by omega
  clear hx hc h
  go_enter Try.func70, Try.ntmps70
  go_upto_if 18 with fail
  have hcw := below_cell (Rb.new w).bel hcell
  refine gen_w (p := fun v => Code.wp _ _ _ _ v) (q := fun v => Rb w v ∧ v.cell? ⟨g, off + i, none⟩ = some (.int .u8 x)) ⟨Rb.new w, hcw⟩ ?_
  clear hcell hcw
  rintro v ⟨R, hcell⟩
  have x0 := R.x0
  have x1 := R.x1
  have x2 := R.x2
  have xf := R.xf
  have HR := Hid.mk R
  clear R
  go_wp2_with fail
  have hr := put3 HR.out.row (.bool false) (.slice none 0 0) (.slice none 0 0)
  refine bodyPost_ret (results_row3 Try.results70 _ _ w.heap.size _ _ _ rfl hr) rfl ?_
  exact ⟨below3 HR.out.bel (Nat.le_refl _) _ _ _, rfl, by decide⟩
set_option maxHeartbeats 1000000 in
theorem rfirst_low (a : Option Addr) (n c i j d : Nat) (w : World) (b : List Int) (h : Ag w a n c b) (hn : n ≤ 140737488351232) (hij : i < j) (hj : j ≤ n) (x : Int) (hx : b.getD i 0 = x) (h128 : x < 128) (res : R) (hres : res = .ok (.mk false [x] []) 1) :
    Calls Try.prog 70 #[.slice a n c, .int .i64 i, .int .i64 j, .int .i64 d] w (FPost w i res) := by
  subst hres
  obtain ⟨g, off, rfl, hc1, hc2, hc⟩ := ag_head h (by omega)
  unfold maxLen at hc2
  have hcell := hc i (by omega)
  rw [hx] at hcell
  have hxb := (h.b x (by rw [← hx, List.getD, List.getElem?_eq_getElem (by rw [h.l]; omega)]; exact List.getElem_mem _)).1
  have hlt : (i : Int) < j := by omega
  have hin : (i : Int) < n := by omega
  clear hx hc h
  go_enter Try.func70, Try.ntmps70
  go_upto_if 18 with fail
  have hcw := below_cell (Rb.new w).bel hcell
  refine gen_w (p := fun v => Code.wp _ _ _ _ v) (q := fun v => Rb w v ∧ v.cell? ⟨g, off + i, none⟩ = some (.int .u8 x)) ⟨Rb.new w, hcw⟩ ?_
  clear hcell hcw
  rintro v ⟨R, hcell⟩
  have HR := Hid.mk R
  clear R
  have R2 := HR.out.alloc (.cells #[.int .u8 x] 5)
  have HR2 := Hid.mk R2
  have x0 := R2.x0
  have x1 := R2.x1
  have x2 := R2.x2
  have xf := R2.xf
  clear R2
  go_wp2_with fail
  have hr := put3 HR2.out.row (.bool false) (.slice (some ⟨v.heap.size, 0, none⟩) 1 1) (.slice none 0 0)
  refine bodyPost_ret (results_row3 Try.results70 _ _ w.heap.size _ _ _ rfl hr) rfl ?_
  have hz := HR.out.bel.size
  have hz2 := lt_of_get HR.out.row
  refine ⟨below3 HR2.out.bel (Nat.le_refl _) _ _ _, ⟨false, some ⟨v.heap.size, 0, none⟩, 1, 1, none, 0, 0⟩, by simp, ?_⟩
  have hrow : Row v.heap.size (((v.alloc (.cells #[.int .u8 x] 5)).setCell ⟨w.heap.size, 0, none⟩ (.bool false)).setCell ⟨w.heap.size, 1, none⟩ (.slice (some ⟨v.heap.size, 0, none⟩) 1 1) |>.setCell ⟨w.heap.size, 2, none⟩ (.slice none 0 0)) [x] :=
    (other3 (by omega) _ _ _).trans (heap_alloc_new _ _)
  exact liesP_text hrow rfl (fun y hy => by
    have e : y = x := by simpa using hy
    omega) (by omega) (by omega)
end Go.Proofs.Ytmofehloiiopfaa

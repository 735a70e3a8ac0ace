/- What the survey's body, measure and Right answer, of every item. -/
import Derived.Test.YtmaajddofmahpaaG03
import Derived.Test.YtmaajddofmahpaaG02
namespace Go.Proofs.Ytmaajddofmahpaa
open Go.RowKit
set_option linter.unusedVariables false
theorem body_any : ∀ t, ∀ (x : V) (d W g : Nat) (w0 w : World), Lies w0 t x → Below w0.heap.size w0 w → w0.heap.size ≤ g → w.heap[g]? = some (.cells #[.int .i64 W] 72) → W ≤ 16777215 → d ≤ 8 →
    Calls Try.prog 52 #[.pointer (some ⟨g, 0, none⟩), .agg #[.bool x.l, .slice x.ba x.bn x.bc, .slice x.ia x.m x.ic], .int .i64 d] w (BodyPost t d W g w) := by
  refine T.ind fun l bs its ih x d W g w0 w hli hbel hg hcell hW hd => ?_
  by_cases h1 : (l = true ∧ d = 8) ∨ wrongForm l bs its = true ∨ 16777215 < W + wt l bs d
  · exact body_bad l bs its x d W g w0 w hli hbel hg hcell hW hd h1
  · have h2 : ¬ (l = true ∧ d = 8) := fun h => h1 (.inl h)
    have h3 : wrongForm l bs its = false := by
      cases h : wrongForm l bs its with
      | false => rfl
      | true => exact absurd (.inr (.inl h)) h1
    have h4 : W + wt l bs d ≤ 16777215 := Nat.le_of_not_lt fun h => h1 (.inr (.inr h))
    cases l with
    | false => exact body_text bs its x d W g w0 w hli hbel hg hcell hW hd h2 h3 h4
    | true => exact body_list bs its x d W g w0 w hli hbel hg hcell hW hd h2 h3 h4 ih
theorem szb_bound {t : T} {d w : Nat} (hw : w ≤ 16777215) (h : (wk t d w).2 = 0) : szb t < 1000000000 := by
  obtain ⟨l, bs, its⟩ := t
  obtain ⟨_, h2, h3, h4⟩ := wk_ok h
  rw [h4] at h
  obtain ⟨b1, b2, b3⟩ := wks_bound (its := its) (d := d + 1) (w := w + wt l bs d) (W := (wks its (d + 1) (w + wt l bs d)).1) (by omega) h3 (by rw [← h])
  show bs.length + szs its < _
  have hf := wrong_false h2
  cases l with
  | true =>
    have : bs = [] := by simpa using hf
    subst this
    simp
    omega
  | false =>
    have : bs.length ≤ wt false bs d := by simp [wt]; omega
    omega
/-- What measure tells. -/
def mP (t : T) : Nat × Nat := if (wk t 0 0).2 ≠ 0 then (0, (wk t 0 0).2) else if 16777215 < szb t then (0, 20) else (sz t, 0)
set_option maxHeartbeats 1000000 in
theorem measure_any (t : T) (x : V) (w : World) (hli : Lies w t x) :
    Calls Try.prog 37 #[.agg #[.bool x.l, .slice x.ba x.bn x.bc, .slice x.ia x.m x.ic]] w fun e w' => e = .returned (.tuple #[.int .i64 ((mP t).1 : Nat), .int .i64 ((mP t).2 : Nat)]) ∧ Below w.heap.size w w' := by
  have HLI := Hid.mk hli
  obtain ⟨m1, hm1⟩ : ∃ m1, mP t = m1 := ⟨_, rfl⟩
  rw [hm1]
  have HM := Hid.mk hm1
  clear hli hm1
  go_enter Try.func37, Try.ntmps37
  go_wp2_with fail
  have hcal := body_any t x 0 0 (w.heap.size + 1) w ((w.alloc (.cells #[.bool x.l, .slice x.ba x.bn x.bc, .slice x.ia x.m x.ic] 46)).alloc (.cells #[.int .i64 0] 72)) HLI.out (((Below.refl _ _).alloc (Nat.le_refl _) _).alloc (by simp) _) (by omega)
    (by have := heap_alloc_new (w.alloc (.cells #[.bool x.l, .slice x.ba x.bn x.bc, .slice x.ia x.m x.ic] 46)) (.cells #[.int .i64 0] 72); rw [show (w.alloc (.cells #[.bool x.l, .slice x.ba x.bn x.bc, .slice x.ia x.m x.ic] 46)).heap.size = w.heap.size + 1 from by simp] at this; exact this) (by omega) (by omega)
  rw [show ((0 : Nat) : Int) = 0 from rfl] at hcal
  refine hcal.mono ?_
  clear hcal
  rintro e w1 ⟨ht1, hres⟩
  have hsz : ((w.alloc (.cells #[.bool x.l, .slice x.ba x.bn x.bc, .slice x.ia x.m x.ic] 46)).alloc (.cells #[.int .i64 0] 72)).heap.size = w.heap.size + 1 + 1 := by simp
  have hyb : w1.heap[w.heap.size]? = some (.cells #[.bool x.l, .slice x.ba x.bn x.bc, .slice x.ia x.m x.ic] 46) := (ht1.block _ (by rw [hsz]; omega) (by omega)).trans ((Below.heap_alloc _ _ _ (by simp)).trans (heap_alloc_new _ _))
  have hb0 : Below w.heap.size w ((w.alloc (.cells #[.bool x.l, .slice x.ba x.bn x.bc, .slice x.ia x.m x.ic] 46)).alloc (.cells #[.int .i64 0] 72)) := ((Below.refl _ _).alloc (Nat.le_refl _) _).alloc (by simp) _
  have hb1 : Below w.heap.size w w1 := Touch.below hb0 ht1 (by omega) (by rw [hsz]; omega)
  clear ht1 hsz hb0
  obtain ⟨ul, ub, ui⟩ := t
  have hyl : Hid (x.l = ul) := (lies_eq.1 HLI.out).1
  have AG := Hid.mk ((lies_eq.1 HLI.out).2.1.at hb1)
  have HMM := HM.out
  unfold mP at HMM
  rcases hres with ⟨hr0, rfl, hr2⟩ | ⟨hr0, rfl⟩
  · have y0 : w1.cell? ⟨w.heap.size, 0, none⟩ = some (.bool x.l) := by rw [cell_of_row _ _ _ _ _ _ hyb]; rfl
    have y1 : w1.cell? ⟨w.heap.size, 1, none⟩ = some (.slice x.ba x.bn x.bc) := by rw [cell_of_row _ _ _ _ _ _ hyb]; rfl
    have y2 : w1.cell? ⟨w.heap.size, 2, none⟩ = some (.slice x.ia x.m x.ic) := by rw [cell_of_row _ _ _ _ _ _ hyb]; rfl
    rw [if_neg (by rw [hr0]; simp)] at HMM
    have hnn := szb_bound (Nat.zero_le _) hr0
    rw [sz_szb] at HMM
    obtain ⟨nn, hnn0⟩ : ∃ nn, szb (T.mk ul ub ui) = nn := ⟨_, rfl⟩
    rw [hnn0] at hnn HMM ⊢
    have HB1 := Hid.mk hb1
    clear hr0 hr2 hyb hnn0 hb1
    by_cases hlong : 16777215 < nn
    · rw [if_pos hlong] at HMM
      have hl2 : (16777215 : Int) < nn := by omega
      have HM2 := Hid.mk HMM
      clear HMM HM
      go_wp2_with fail
      go_ret2
      refine ⟨?_, HB1.out⟩
      rw [← HM2.out]
      rfl
    · rw [if_neg hlong] at HMM
      have hl2 : ¬ (16777215 : Int) < nn := by omega
      have HM2 := Hid.mk HMM
      clear HMM HM
      go_wp2_with fail
      refine (sizeOf_any x.l x.ba x.bn x.bc x.ia x.m x.ic ub nn _ AG.out hnn).mono ?_
      rintro e w2 ⟨rfl, hb2⟩
      rw [hyl.out]
      go_wp2_with fail
      go_ret2
      refine ⟨?_, HB1.out.trans (hb2.mono HB1.out.size)⟩
      rw [← HM2.out]
      rfl
  · rw [if_pos hr0] at HMM
    obtain ⟨er, her⟩ : ∃ er, (wk (T.mk ul ub ui) 0 0).2 = er := ⟨_, rfl⟩
    have hee : ((er : Int) != 0) = true := by rw [bne_iff_ne]; rw [her] at hr0; omega
    rw [her] at HMM ⊢
    have HM2 := Hid.mk HMM
    have HB1 := Hid.mk hb1
    clear hr0 hyb her HMM HM hb1
    go_wp2_with fail
    go_ret2
    refine ⟨?_, HB1.out⟩
    rw [← HM2.out]
    rfl
end Go.Proofs.Ytmaajddofmahpaa
/- What putHead writes. -/
namespace Go.Proofs.Ytmaajddofmahpaa
open Go.RowKit
set_option linter.unusedVariables false
/-- Block g is a row of bytes. -/
def Row (g : Nat) (w : World) (R : List Int) : Prop := w.heap[g]? = some (.cells (R.map (Value.int .u8)).toArray 5)
theorem Row.set {g : Nat} {w : World} {R : List Int} (h : Row g w R) (i : Nat) (x : Int) : Row g (w.setCell ⟨g, i, none⟩ (.int .u8 x)) (R.set i x) := by
  have := heap_setCell_same w g i _ 5 (.int .u8 x) h
  unfold Row
  rw [this]
  congr 2
  rw [List.setIfInBounds_toArray, List.map_set]
theorem Row.cell {g : Nat} {w : World} {R : List Int} (h : Row g w R) {i : Nat} (hi : i < R.length) : w.cell? ⟨g, i, none⟩ = some (.int .u8 (R.getD i 0)) := by
  rw [cell_of_row _ _ _ _ _ _ h]
  simp [List.getElem?_eq_getElem hi]
theorem Row.frozen {g : Nat} {w : World} {R : List Int} (h : Row g w R) (i : Nat) : w.frozen? ⟨g, i, none⟩ = false := frozen_of_row _ _ _ _ _ h
theorem set_mid (R tl : List Int) (a e : Nat) (v : Int) (ha : a + 1 ≤ R.length) : (R.take (a + 1) ++ tl ++ R.drop e).set a v = R.take a ++ (v :: tl) ++ R.drop e := by
  have h1 : R.take (a + 1) = R.take a ++ [R[a]] := by rw [List.take_add_one, List.getElem?_eq_getElem (by omega)]; rfl
  have h2 : (R.take a).length = a := by rw [List.length_take]; omega
  rw [h1, List.append_assoc, List.append_assoc, List.set_append_right _ _ (by omega), h2, Nat.sub_self]
  simp
set_option maxHeartbeats 1000000 in
theorem putHead_any (g at_ S n b : Nat) (R : List Int) (w : World) (hR : Row g w R) (hS : R.length = S) (hat : at_ ≤ S) (hS2 : S ≤ 4611686018427387904) (hn : n < 16777216) (hb : b = 128 ∨ b = 192) (hfit : (hd b n).length ≤ at_) :
    Calls Try.prog 55 #[.slice (some ⟨g, 0, none⟩) S S, .int .i64 at_, .int .u8 b, .int .i64 n] w fun e w' => e = .returned (.int .i64 (at_ - (hd b n).length : Nat)) ∧ Row g w' (R.take (at_ - (hd b n).length) ++ hd b n ++ R.drop at_) ∧ Touch g w w' := by
  have hlen := hd_len b n
  have hb2 : b ≤ 192 := by omega
  by_cases h5 : n ≤ 55
  · have e1 : hd b n = [((b + n : Nat) : Int)] := by rw [hd, if_pos h5]
    rw [e1] at hfit ⊢
    simp only [List.length_singleton] at hfit ⊢
    obtain ⟨a, rfl⟩ : ∃ a, at_ = a + 1 := ⟨at_ - 1, by omega⟩
    have hcell := hR.cell (i := a) (by omega)
    have hfz := hR.frozen a
    have hset := set_mid R [] a (a + 1) ((b + n : Nat) : Int) (by omega)
    rw [List.append_nil, List.take_append_drop] at hset
    have hrow := hR.set a ((b + n : Nat) : Int)
    rw [hset] at hrow
    have HR := Hid.mk hrow
    have h55 : (n : Int) ≤ 55 := by omega
    clear hset hrow hR hlen e1 hfit hb
    go_enter Try.func55, Try.ntmps55
    go_wp2_with fail
    go_ret
    exact ⟨by simp, by simpa using HR.out, Touch.setCell _ _ _ _⟩
  · have e1 : hd b n = ((b + 55 + nb n : Nat) : Int) :: be n := by rw [hd, if_neg h5]
    have hnb := nb_le3 hn
    have hnb1 := nb_ge (n := n) (by omega)
    rw [if_pos (by omega)] at hlen
    rw [e1] at hlen hfit ⊢
    rw [hlen] at hfit ⊢
    obtain ⟨a0, rfl⟩ : ∃ a0, at_ = a0 + (1 + nb n) := ⟨at_ - (1 + nb n), by omega⟩
    rw [show a0 + (1 + nb n) - (1 + nb n) = a0 from by omega]
    obtain ⟨nbn, hnbn⟩ : ∃ k, nb n = k := ⟨_, rfl⟩
    obtain ⟨bn, hbn⟩ : ∃ k, be n = k := ⟨_, rfl⟩
    rw [hnbn] at hnb hnb1 hat ⊢
    rw [hbn]
    have HNB := Hid.mk hnbn
    have HBE := Hid.mk hbn
    have HR := Hid.mk hR
    have h55 : ¬ (n : Int) ≤ 55 := by omega
    clear hR hlen e1 hfit hb hnbn hbn
    go_enter Try.func55, Try.ntmps55
    go_wp2_with fail
    go_loopw [1, 9, 10] (fun p c q v => ∃ (a k r : Nat) (tl : List Int), p = .int .i64 a ∧ c = .int .i64 k ∧ q = .int .i64 r ∧ r ≤ n ∧ a = a0 + 1 + nb r ∧ k + nb r = nbn ∧ bn = be r ++ tl ∧ Row g v (R.take a ++ tl ++ R.drop (a0 + (1 + nbn))) ∧ Touch g w v) (fun _ _ q _ => (intOf q).toNat)
    case atStart => exact ⟨a0 + (1 + nbn), 0, n, [], rfl, rfl, rfl, Nat.le_refl _, by rw [HNB.out]; omega, by rw [HNB.out]; omega, by rw [List.append_nil]; exact HBE.out.symm, by rw [List.append_nil, List.take_append_drop]; exact HR.out, Touch.refl _ _⟩
    case round =>
      obtain ⟨a, k, r, tl, rfl, rfl, rfl, hrn, ha, hk, hbe, hrow, ht⟩ := hrel
      by_cases h0 : r = 0
      · subst h0
        rw [nb_zero] at ha hk
        rw [be_zero, List.nil_append] at hbe
        have ha' : a = a0 + 1 := by omega
        have hk' : k = nbn := by omega
        subst ha' hk' hbe
        have htl : (R.take (a0 + 1)).length = a0 + 1 := by rw [List.length_take]; omega
        have hcell := hrow.cell (i := a0) (by simp; omega)
        have hfz := hrow.frozen a0
        have hrow2 := hrow.set a0 ((b + 55 + k : Nat) : Int)
        rw [set_mid _ _ _ _ _ (by omega)] at hrow2
        have HRW := Hid.mk hrow2
        have HT := Hid.mk ht
        clear hrow hrow2 ht htl ha hk
        go_wp2_with fail
        go_ret
        exact ⟨by simp, by simpa using HRW.out, HT.out.trans (Touch.setCell _ _ _ _)⟩
      · rw [nb_pos (by omega)] at ha hk
        rw [be_pos (by omega)] at hbe
        obtain ⟨a', rfl⟩ : ∃ a', a = a' + 1 := ⟨a - 1, by omega⟩
        have hr0 : (0 : Int) < r := by omega
        have htl : (R.take (a' + 1)).length = a' + 1 := by rw [List.length_take]; omega
        have hcell := hrow.cell (i := a') (by simp; omega)
        have hfz := hrow.frozen a'
        have hrow2 := hrow.set a' ((r % 256 : Nat) : Int)
        rw [set_mid _ _ _ _ _ (by omega)] at hrow2
        have HRW := Hid.mk hrow2
        have HT := Hid.mk ht
        have HBB := Hid.mk hbe
        have HAA := Hid.mk ha
        have HKK := Hid.mk hk
        have hka : a' + 1 ≤ S := by omega
        have hkb : k < 10 := by omega
        have hrb : r < 16777216 := by omega
        clear hrow hrow2 ht htl ha hk hbe
        go_wp2_with fail
        refine ⟨⟨a', k + 1, r / 256, ((r % 256 : Nat) : Int) :: tl, rfl, by simp, by simp, by omega, by have := HAA.out; omega, by have := HKK.out; omega, by rw [HBB.out, List.append_assoc]; rfl, by simpa using HRW.out, HT.out.trans (Touch.setCell _ _ _ _)⟩, ?_⟩
        simp [intOf]
        omega
end Go.Proofs.Ytmaajddofmahpaa

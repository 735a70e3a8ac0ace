/- What the survey's body, measure and Right answer, of every item. -/
import Derived.Test.YtmofehloiiopfaaG02
import Derived.Test.YtmofehloiiopfaaG01
namespace Go.Proofs.Ytmofehloiiopfaa
open Go.RowKit
set_option linter.unusedVariables false
theorem body_any : ∀ t, ∀ (x : V) (d W g : Nat) (w0 w : World), Lies w0 t x → Below w0.heap.size w0 w → w0.heap.size ≤ g → w.heap[g]? = some (.cells #[.int .i64 W] 86) → W ≤ 16777215 → d ≤ 8 →
    Calls Try.prog 61 #[.pointer (some ⟨g, 0, none⟩), .agg #[.bool x.l, .slice x.ba x.bn x.bc, .slice x.ia x.m x.ic], .int .i64 d] w (BodyPost t d W g w) := by
  refine T.ind fun l bs its ih x d W g w0 w hli hbel hg hcell hW hd => ?_
  by_cases h1 : (l = true ∧ d = 8) ∨ wrongForm l bs its = true ∨ 16777215 < W + wt l bs d
  · exact body_bad l bs its x d W g w0 w hli hbel hg hcell hW hd h1
  · have h2 : ¬ (l = true ∧ d = 8) := fun h => h1 (.inl h)
    have h3 : wrongForm l bs its = false := by
      cases h : wrongForm l bs its with
      | false => rfl
      | true => exact absurd (.inr (.inl h)) h1
    have h4 : W + wt l bs d ≤ 16777215 := Nat.le_of_not_lt fun h => h1 (.inr (.inr h))
    cases l with
    | false => exact body_text bs its x d W g w0 w hli hbel hg hcell hW hd h2 h3 h4
    | true => exact body_list bs its x d W g w0 w hli hbel hg hcell hW hd h2 h3 h4 ih
theorem szb_bound {t : T} {d w : Nat} (hw : w ≤ 16777215) (h : (wk t d w).2 = 0) : szb t < 1000000000 := by
  obtain ⟨l, bs, its⟩ := t
  obtain ⟨_, h2, h3, h4⟩ := wk_ok h
  rw [h4] at h
  obtain ⟨b1, b2, b3⟩ := wks_bound (its := its) (d := d + 1) (w := w + wt l bs d) (W := (wks its (d + 1) (w + wt l bs d)).1) (by omega) h3 (by rw [← h])
  show bs.length + szs its < _
  have hf := wrong_false h2
  cases l with
  | true =>
    have : bs = [] := by simpa using hf
    subst this
    simp
    omega
  | false =>
    have : bs.length ≤ wt false bs d := by simp [wt]; omega
    omega
/-- What measure tells. -/
def mP (t : T) : Nat × Nat := if (wk t 0 0).2 ≠ 0 then (0, (wk t 0 0).2) else if 16777215 < szb t then (0, 20) else (sz t, 0)
set_option maxHeartbeats 1000000 in
theorem measure_any (t : T) (x : V) (w : World) (hli : Lies w t x) :
    Calls Try.prog 39 #[.agg #[.bool x.l, .slice x.ba x.bn x.bc, .slice x.ia x.m x.ic]] w fun e w' => e = .returned (.tuple #[.int .i64 ((mP t).1 : Nat), .int .i64 ((mP t).2 : Nat)]) ∧ Below w.heap.size w w' := by
  have HLI := Hid.mk hli
  obtain ⟨m1, hm1⟩ : ∃ m1, mP t = m1 := ⟨_, rfl⟩
  rw [hm1]
  have HM := Hid.mk hm1
  clear hli hm1
  go_enter Try.func39, Try.ntmps39
  go_wp2_with fail
  have hcal := body_any t x 0 0 (w.heap.size + 1) w ((w.alloc (.cells #[.bool x.l, .slice x.ba x.bn x.bc, .slice x.ia x.m x.ic] 45)).alloc (.cells #[.int .i64 0] 86)) HLI.out (((Below.refl _ _).alloc (Nat.le_refl _) _).alloc (by simp) _) (by omega)
    (by have := heap_alloc_new (w.alloc (.cells #[.bool x.l, .slice x.ba x.bn x.bc, .slice x.ia x.m x.ic] 45)) (.cells #[.int .i64 0] 86); rw [show (w.alloc (.cells #[.bool x.l, .slice x.ba x.bn x.bc, .slice x.ia x.m x.ic] 45)).heap.size = w.heap.size + 1 from by simp] at this; exact this) (by omega) (by omega)
  rw [show ((0 : Nat) : Int) = 0 from rfl] at hcal
  refine hcal.mono ?_
  clear hcal
  rintro e w1 ⟨ht1, hres⟩
  have hsz : ((w.alloc (.cells #[.bool x.l, .slice x.ba x.bn x.bc, .slice x.ia x.m x.ic] 45)).alloc (.cells #[.int .i64 0] 86)).heap.size = w.heap.size + 1 + 1 := by simp
  have hyb : w1.heap[w.heap.size]? = some (.cells #[.bool x.l, .slice x.ba x.bn x.bc, .slice x.ia x.m x.ic] 45) := (ht1.block _ (by rw [hsz]; omega) (by omega)).trans ((Below.heap_alloc _ _ _ (by simp)).trans (heap_alloc_new _ _))
  have hb0 : Below w.heap.size w ((w.alloc (.cells #[.bool x.l, .slice x.ba x.bn x.bc, .slice x.ia x.m x.ic] 45)).alloc (.cells #[.int .i64 0] 86)) := ((Below.refl _ _).alloc (Nat.le_refl _) _).alloc (by simp) _
  have hb1 : Below w.heap.size w w1 := Touch.below hb0 ht1 (by omega) (by rw [hsz]; omega)
  clear ht1 hsz hb0
  obtain ⟨ul, ub, ui⟩ := t
  have hyl : Hid (x.l = ul) := (lies_eq.1 HLI.out).1
  have AG := Hid.mk ((lies_eq.1 HLI.out).2.1.at hb1)
  have HMM := HM.out
  unfold mP at HMM
  rcases hres with ⟨hr0, rfl, hr2⟩ | ⟨hr0, rfl⟩
  · have y0 : w1.cell? ⟨w.heap.size, 0, none⟩ = some (.bool x.l) := by rw [cell_of_row _ _ _ _ _ _ hyb]; rfl
    have y1 : w1.cell? ⟨w.heap.size, 1, none⟩ = some (.slice x.ba x.bn x.bc) := by rw [cell_of_row _ _ _ _ _ _ hyb]; rfl
    have y2 : w1.cell? ⟨w.heap.size, 2, none⟩ = some (.slice x.ia x.m x.ic) := by rw [cell_of_row _ _ _ _ _ _ hyb]; rfl
    rw [if_neg (by rw [hr0]; simp)] at HMM
    have hnn := szb_bound (Nat.zero_le _) hr0
    rw [sz_szb] at HMM
    obtain ⟨nn, hnn0⟩ : ∃ nn, szb (T.mk ul ub ui) = nn := ⟨_, rfl⟩
    rw [hnn0] at hnn HMM ⊢
    have HB1 := Hid.mk hb1
    clear hr0 hr2 hyb hnn0 hb1
    by_cases hlong : 16777215 < nn
    · rw [if_pos hlong] at HMM
      have hl2 : (16777215 : Int) < nn := by omega
      have HM2 := Hid.mk HMM
      clear HMM HM
      go_wp2_with fail
      go_ret2
      refine ⟨?_, HB1.out⟩
      rw [← HM2.out]
      rfl
    · rw [if_neg hlong] at HMM
      have hl2 : ¬ (16777215 : Int) < nn := by omega
      have HM2 := Hid.mk HMM
      clear HMM HM
      go_wp2_with fail
      refine (sizeOf_any x.l x.ba x.bn x.bc x.ia x.m x.ic ub nn _ AG.out hnn).mono ?_
      rintro e w2 ⟨rfl, hb2⟩
      rw [hyl.out]
      go_wp2_with fail
      go_ret2
      refine ⟨?_, HB1.out.trans (hb2.mono HB1.out.size)⟩
      rw [← HM2.out]
      rfl
  · rw [if_pos hr0] at HMM
    obtain ⟨er, her⟩ : ∃ er, (wk (T.mk ul ub ui) 0 0).2 = er := ⟨_, rfl⟩
    have hee : ((er : Int) != 0) = true := by rw [bne_iff_ne]; rw [her] at hr0; omega
    rw [her] at HMM ⊢
    have HM2 := Hid.mk HMM
    have HB1 := Hid.mk hb1
    clear hr0 hyb her HMM HM hb1
    go_wp2_with fail
    go_ret2
    refine ⟨?_, HB1.out⟩
    rw [← HM2.out]
    rfl
end Go.Proofs.Ytmofehloiiopfaa
/- What putHead writes. -/
namespace Go.Proofs.Ytmofehloiiopfaa
open Go.RowKit
set_option linter.unusedVariables false
/-- Block g is a row of bytes. -/
def Row (g : Nat) (w : World) (R : List Int) : Prop := w.heap[g]? = some (.cells (R.map (Value.int .u8)).toArray 5)
theorem Row.set {g : Nat} {w : World} {R : List Int} (h : Row g w R) (i : Nat) (x : Int) : Row g (w.setCell ⟨g, i, none⟩ (.int .u8 x)) (R.set i x) := by
  have := heap_setCell_same w g i _ 5 (.int .u8 x) h
  unfold Row
  rw [this]
  congr 2
  rw [List.setIfInBounds_toArray, List.map_set]
theorem Row.cell {g : Nat} {w : World} {R : List Int} (h : Row g w R) {i : Nat} (hi : i < R.length) : w.cell? ⟨g, i, none⟩ = some (.int .u8 (R.getD i 0)) := by
  rw [cell_of_row _ _ _ _ _ _ h]
  simp [List.getElem?_eq_getElem hi]
theorem Row.frozen {g : Nat} {w : World} {R : List Int} (h : Row g w R) (i : Nat) : w.frozen? ⟨g, i, none⟩ = false := frozen_of_row _ _ _ _ _ h
theorem set_mid (R tl : List Int) (a e : Nat) (v : Int) (ha : a + 1 ≤ R.length) : (R.take (a + 1) ++ tl ++ R.drop e).set a v = R.take a ++ (v :: tl) ++ R.drop e := by
  have h1 : R.take (a + 1) = R.take a ++ [R[a]] := by rw [List.take_add_one, List.getElem?_eq_getElem (by omega)]; rfl
  have h2 : (R.take a).length = a := by rw [List.length_take]; omega
  rw [h1, List.append_assoc, List.append_assoc, List.set_append_right _ _ (by omega), h2, Nat.sub_self]
  simp
set_option maxHeartbeats 1000000 in
theorem putHead_any (g at_ S n b : Nat) (R : List Int) (w : World) (hR : Row g w R) (hS : R.length = S) (hat : at_ ≤ S) (hS2 : S ≤ 4611686018427387904) (hn : n < 16777216) (hb : b = 128 ∨ b = 192) (hfit : (hd b n).length ≤ at_) :
    Calls Try.prog 64 #[.slice (some ⟨g, 0, none⟩) S S, .int .i64 at_, .int .u8 b, .int .i64 n] w fun e w' => e = .returned (.int .i64 (at_ - (hd b n).length : Nat)) ∧ Row g w' (R.take (at_ - (hd b n).length) ++ hd b n ++ R.drop at_) ∧ Touch g w w' := by
  have hlen := hd_len b n
  have hb2 : b ≤ 192 := by omega
  by_cases h5 : n ≤ 55
  · have e1 : hd b n = [((b + n : Nat) : Int)] := by rw [hd, if_pos h5]
    rw [e1] at hfit ⊢
    simp only [List.length_singleton] at hfit ⊢
    obtain ⟨a, rfl⟩ : ∃ a, at_ = a + 1 := ⟨at_ - 1, by omega⟩
    have hcell := hR.cell (i := a) (by omega)
    have hfz := hR.frozen a
    have hset := set_mid R [] a (a + 1) ((b + n : Nat) : Int) (by omega)
    rw [List.append_nil, List.take_append_drop] at hset
    have hrow := hR.set a ((b + n : Nat) : Int)
    rw [hset] at hrow
    have HR := Hid.mk hrow
    have h55 : (n : Int) ≤ 55 := by omega
    clear hset hrow hR hlen e1 hfit hb
    go_enter Try.func64, Try.ntmps64
    go_wp2_with fail
    go_ret
    exact ⟨by simp, by simpa using HR.out, Touch.setCell _ _ _ _⟩
  · have e1 : hd b n = ((b + 55 + nb n : Nat) : Int) :: be n := by rw [hd, if_neg h5]
    have hnb := nb_le3 hn
    have hnb1 := nb_ge (n := n) (by omega)
    rw [if_pos (by omega)] at hlen
    rw [e1] at hlen hfit ⊢
    rw [hlen] at hfit ⊢
    obtain ⟨a0, rfl⟩ : ∃ a0, at_ = a0 + (1 + nb n) := ⟨at_ - (1 + nb n), by omega⟩
    rw [show a0 + (1 + nb n) - (1 + nb n) = a0 from by omega]
    obtain ⟨nbn, hnbn⟩ : ∃ k, nb n = k := ⟨_, rfl⟩
    obtain ⟨bn, hbn⟩ : ∃ k, be n = k := ⟨_, rfl⟩
    rw [hnbn] at hnb hnb1 hat ⊢
    rw [hbn]
    have HNB := Hid.mk hnbn
    have HBE := Hid.mk hbn
    have HR := Hid.mk hR
    have h55 : ¬ (n : Int) ≤ 55 := by omega
    clear hR hlen e1 hfit hb hnbn hbn
    go_enter Try.func64, Try.ntmps64
    go_wp2_with fail
    go_loopw [1, 9, 10] (fun p c q v => ∃ (a k r : Nat) (tl : List Int), p = .int .i64 a ∧ c = .int .i64 k ∧ q = .int .i64 r ∧ r ≤ n ∧ a = a0 + 1 + nb r ∧ k + nb r = nbn ∧ bn = be r ++ tl ∧ Row g v (R.take a ++ tl ++ R.drop (a0 + (1 + nbn))) ∧ Touch g w v) (fun _ _ q _ => (intOf q).toNat)
    case atStart => exact ⟨a0 + (1 + nbn), 0, n, [], rfl, rfl, rfl, Nat.le_refl _, by rw [HNB.out]; omega, by rw [HNB.out]; omega, by rw [List.append_nil]; exact HBE.out.symm, by rw [List.append_nil, List.take_append_drop]; exact HR.out, Touch.refl _ _⟩
    case round =>
      obtain ⟨a, k, r, tl, rfl, rfl, rfl, hrn, ha, hk, hbe, hrow, ht⟩ := hrel
      by_cases h0 : r = 0
      · subst h0
        rw [nb_zero] at ha hk
        rw [be_zero, List.nil_append] at hbe
        have ha' : a = a0 + 1 := by omega
        have hk' : k = nbn := by omega
        subst ha' hk' hbe
        have htl : (R.take (a0 + 1)).length = a0 + 1 := by rw [List.length_take]; omega
        have hcell := hrow.cell (i := a0) (by simp; omega)
        have hfz := hrow.frozen a0
        have hrow2 := hrow.set a0 ((b + 55 + k : Nat) : Int)
        rw [set_mid _ _ _ _ _ (by omega)] at hrow2
        have HRW := Hid.mk hrow2
        have HT := Hid.mk ht
        clear hrow hrow2 ht htl ha hk
        go_wp2_with fail
        go_ret
        exact ⟨by simp, by simpa using HRW.out, HT.out.trans (Touch.setCell _ _ _ _)⟩
      · rw [nb_pos (by omega)] at ha hk
        rw [be_pos (by omega)] at hbe
        obtain ⟨a', rfl⟩ : ∃ a', a = a' + 1 := ⟨a - 1, by omega⟩
        have hr0 : (0 : Int) < r := by omega
        have htl : (R.take (a' + 1)).length = a' + 1 := by rw [List.length_take]; omega
        have hcell := hrow.cell (i := a') (by simp; omega)
        have hfz := hrow.frozen a'
        have hrow2 := hrow.set a' ((r % 256 : Nat) : Int)
        rw [set_mid _ _ _ _ _ (by omega)] at hrow2
        have HRW := Hid.mk hrow2
        have HT := Hid.mk ht
        have HBB := Hid.mk hbe
        have HAA := Hid.mk ha
        have HKK := Hid.mk hk
        have hka : a' + 1 ≤ S := by omega
        have hkb : k < 10 := by omega
        have hrb : r < 16777216 := by omega
        clear hrow hrow2 ht htl ha hk hbe
        go_wp2_with fail
        refine ⟨⟨a', k + 1, r / 256, ((r % 256 : Nat) : Int) :: tl, rfl, by simp, by simp, by omega, by have := HAA.out; omega, by have := HKK.out; omega, by rw [HBB.out, List.append_assoc]; rfl, by simpa using HRW.out, HT.out.trans (Touch.setCell _ _ _ _)⟩, ?_⟩
        simp [intOf]
        omega
end Go.Proofs.Ytmofehloiiopfaa
/- What put writes of a text. -/
namespace Go.Proofs.Ytmofehloiiopfaa
open Go.RowKit
set_option linter.unusedVariables false
theorem copy_row {w : World} {g o dl dc bn bc : Nat} {ba da : Option Addr} {bs R : List Int} (hR : Row g w R) (hA : Ag w ba bn bc bs) (hdl : dl = bn) (hfit : o + bn ≤ R.length) (hda : 0 < bn → da = some ⟨g, o, none⟩) :
    ∃ w', (∀ ty, (Builtin.copy_ #[24, 24] ty #[.slice da dl dc, .slice ba bn bc]).run Try.prog w = .ok (.int .i64 bn) w') ∧ Row g w' (R.take o ++ bs ++ R.drop (o + bn)) ∧ Touch g w w' := by
  subst hdl
  have hl := hA.l
  by_cases h0 : dl = 0
  · subst h0
    have hb : bs = [] := List.eq_nil_of_length_eq_zero hl
    subst hb
    refine ⟨w, fun ty => ?_, by rw [List.append_nil, Nat.add_zero, List.take_append_drop]; exact hR, Touch.refl _ _⟩
    rw [run_copy_none (P := Try.prog) w 24 24 ty 5 _ _ _ _ _ _ Try.underlying24 (by kernel_rfl) (by simp)]
    rfl
  · obtain ⟨gb, off, rfl, h1, h2, h3⟩ := ag_head hA (by omega)
    have hda := hda (by omega)
    subst hda
    refine ⟨_, fun ty => ?_, ?_, Touch.setRow g w ((R.take o ++ bs ++ R.drop (o + dl)).map (Value.int .u8)).toArray⟩
    · rw [run_copy_row (P := Try.prog) w 24 24 ty 5 g o dl dc ⟨gb, off, none⟩ dl bc _ 5 (bs.map (Value.int .u8)) Try.underlying24 (by kernel_rfl) hR (by simp [hl]) ?_ (by simp; omega) (B8_one2 _)]
      · congr 1
        · simp [goInt, hl]
        · congr 2
          simp [List.map_append, List.map_take, List.map_drop, hl]
      · intro j v hv
        have hj : j < dl := by have := (List.getElem?_eq_some_iff.1 hv).1; simpa [hl] using this
        rw [addr_add, h3 j hj, ← hv]
        simp [List.getElem?_eq_getElem (show j < bs.length by omega)]
    · exact setRow_heap _ _ _ _ _ _ hR
theorem step_copy {P : Program} {ops : Array Oper} {o : Oper} {a : Act} {w : World} {K : Act → World → Prop} {Q : Exit → Act → World → Prop} {E : Prop}
    (hg : o.guard = none) (d x : Operand) (dT sT : TypeId) (hop : o.op = Op.call { callee := Callee.builtin Builtin.copy, args := #[d, x], argTypes := #[dT, sT] })
    (v u : Value) (hd : a.eval d = v) (hx : a.eval x = u) {v' : Value} {w' : World} (hr : (Builtin.copy_ #[dT, sT] o.type #[v, u]).run P w = .ok v' w') (hK : K (a.put o.dst v') w') :
    if Region.wanted o (yielded ops a.tmps) = true then Oper.wp P o a w K Q else E := by
  have hw : Region.wanted o (yielded ops a.tmps) = true := by simp [Region.wanted, hg]
  rw [if_pos hw]
  unfold Oper.wp
  simp [execOp, hop, resolve, invoke, builtin, hd, hx, hr, Result.andThen]
  exact hK
theorem enc_text {bs : List Int} : enc (.mk false bs []) = if bare false bs then bs else hd 128 bs.length ++ bs := by rw [enc_eq, encs_nil, List.append_nil]; rfl
set_option maxHeartbeats 1000000 in
theorem put_text (bs : List Int) (x : V) (g S fin : Nat) (R : List Int) (w0 w : World) (hli : Lies w0 (.mk false bs []) x) (hbel : Below w0.heap.size w0 w) (hg : w0.heap.size ≤ g) (hR : Row g w R) (hS : R.length = S) (hfin : fin ≤ S) (hS2 : S ≤ 4611686018427387904) (hbody : bs.length < 16777216) (hfit : (enc (.mk false bs [])).length ≤ fin) :
    Calls Try.prog 40 #[.slice (some ⟨g, 0, none⟩) S S, .int .i64 fin, .agg #[.bool x.l, .slice x.ba x.bn x.bc, .slice x.ia x.m x.ic]] w fun e w' => e = .returned (.int .i64 (fin - (enc (.mk false bs [])).length : Nat)) ∧ Row g w' (R.take (fin - (enc (.mk false bs [])).length) ++ enc (.mk false bs []) ++ R.drop fin) ∧ Touch g w w' := by
  obtain ⟨l', ba, bn, bc, ia, m, ic⟩ := x
  obtain ⟨h1, h2, h3, h4, h5, ⟨h7, h8⟩, h6⟩ := lies_eq.1 hli
  simp only at h1 h2 h3 h4 h5 h6 h7 h8 ⊢
  subst h1
  simp only [List.length_nil] at h3
  have hl := h2.l
  have hgl := lt_of_get hR
  have hA := h2.at hbel
  have hlen : bs.length ≤ (enc (.mk false bs [])).length := by rw [enc_text]; split <;> simp
  obtain ⟨a, ha⟩ : ∃ a, fin = a + bn := ⟨fin - bn, by omega⟩
  subst ha
  have hR1 : Row g (w.alloc (.cells #[.bool false, .slice ba bn bc, .slice ia m ic] 45)).drew R := (Below.heap_alloc _ _ _ hgl).trans hR
  have hbw : Below w.heap.size w (w.alloc (.cells #[.bool false, .slice ba bn bc, .slice ia m ic] 45)).drew := ((Below.refl _ _).alloc (Nat.le_refl _) _).drew
  obtain ⟨w1, hrun, hrow, ht⟩ := copy_row (o := a) (dl := ((a : Int) + bn).toNat - a) (dc := S - a) (da := if S = a then some ⟨g, 0, none⟩ else some ⟨g, a, none⟩) hR1 (hA.at hbw) (by omega) (by omega) (fun h => if_neg (by omega))
  have hA1 : Ag w1 ba bn bc bs := h2.at (Touch.below (hbel.alloc hbel.size _).drew ht hg (by have := hbel.size; simp; omega))
  have hx : w1.heap[w.heap.size]? = some (.cells #[.bool false, .slice ba bn bc, .slice ia m ic] 45) := (ht.block _ (by simp) (by omega)).trans (heap_alloc_new _ _)
  have y0 : w1.cell? ⟨w.heap.size, 0, none⟩ = some (.bool false) := by rw [cell_of_row _ _ _ _ _ _ hx]; rfl
  have y1 : w1.cell? ⟨w.heap.size, 1, none⟩ = some (.slice ba bn bc) := by rw [cell_of_row _ _ _ _ _ _ hx]; rfl
  have y2 : w1.cell? ⟨w.heap.size, 2, none⟩ = some (.slice ia m ic) := by rw [cell_of_row _ _ _ _ _ _ hx]; rfl
  have hT : Touch g w w1 := (Touch.of_below hbw).trans ht
  have HRUN := Hid.mk hrun
  have hab : (a : Int) ≤ (a : Int) + bn := by omega
  have hbnS : (a : Int) + bn ≤ S := by omega
  obtain ⟨en, hen⟩ : ∃ en, enc (.mk false bs []) = en := ⟨_, rfl⟩
  rw [hen] at hfit ⊢
  rw [enc_text] at hen
  have HEN := Hid.mk hen
  have HROW := Hid.mk hrow
  have HA1 := Hid.mk hA1
  have HT := Hid.mk hT
  have HX := Hid.mk hx
  have HL := Hid.mk hl
  clear hrun hrow ht hA1 hx hT hR1 hbw hA hli h2 h3 h6 hR hen hl hlen
  go_enter Try.func40, Try.ntmps40
  go_wp2_with fail
  go_cut [0] (fun o v => o = .slice (some ⟨g, 0, none⟩) S S ∧ v = w1)
  case first =>
    go_region_law (refine step_copy rfl _ _ _ _ rfl _ _ rfl rfl (HRUN.out _) ?_)
    all_goals
      go_wp2_with fail
      all_goals
        go_meet
        case rel => exact ⟨by simp [*], rfl⟩
  case rest =>
  obtain ⟨rfl, rfl⟩ := hcut
  go_wp2_with fail
  refine (bare_any false ba bn bc ia m ic bs _ HA1.out).mono ?_
  rintro e w2 ⟨rfl, hb2⟩
  have hT2 : Touch g w w2 := HT.out.trans (Touch.of_below hb2)
  have hrow2 : Row g w2 (R.take a ++ bs ++ R.drop (a + bn)) := Below.row hb2 HROW.out
  have hx2 := Below.row hb2 HX.out
  by_cases hbr : bare false bs = true
  · have e1 := HEN.out
    rw [if_pos hbr] at e1
    subst e1
    rw [hbr]
    have HR2 := Hid.mk hrow2
    have HT2 := Hid.mk hT2
    clear hrow2 hT2 hx2 y0 y1 y2
    go_wp2_with fail
    go_ret
    rw [HL.out, show a + bn - bn = a from by omega]
    exact ⟨rfl, HR2.out, HT2.out⟩
  · have e1 := HEN.out
    rw [if_neg hbr] at e1
    have hbr2 : bare false bs = false := by simpa using hbr
    rw [hbr2]
    have hle : en.length = (hd 128 bn).length + bn := by rw [← e1, List.length_append, HL.out]
    have hRl : (R.take a ++ bs ++ R.drop (a + bn)).length = S := by simp [HL.out]; omega
    have y0 : w2.cell? ⟨w.heap.size, 0, none⟩ = some (.bool false) := by rw [cell_of_row _ _ _ _ _ _ hx2]; rfl
    have y1 : w2.cell? ⟨w.heap.size, 1, none⟩ = some (.slice ba bn bc) := by rw [cell_of_row _ _ _ _ _ _ hx2]; rfl
    have hcal := putHead_any g a S bn 128 (R.take a ++ bs ++ R.drop (a + bn)) w2 hrow2 hRl (by omega) hS2 (by rw [HL.out] at hbody; exact hbody) (.inl rfl) (by omega)
    rw [show ((128 : Nat) : Int) = 128 from rfl] at hcal
    have HCAL := Hid.mk hcal
    have HT2 := Hid.mk hT2
    have HE1 := Hid.mk e1
    have HLE := Hid.mk hle
    clear hcal hRl hx2 hrow2 hT2 e1 hle
    go_wp2_with fail
    refine HCAL.out.mono ?_
    rintro e w3 ⟨rfl, hr3, ht3⟩
    have hle := HLE.out
    have e1 := HE1.out
    have hta : (R.take a).length = a := by rw [List.length_take]; omega
    obtain ⟨h, hh⟩ : ∃ h, (hd 128 bn).length = h := ⟨_, rfl⟩
    rw [hh] at hr3 hle ⊢
    have hfinal : List.take (a - h) (R.take a ++ bs ++ R.drop (a + bn)) ++ hd 128 bn ++ List.drop a (R.take a ++ bs ++ R.drop (a + bn)) = R.take (a + bn - en.length) ++ en ++ R.drop (a + bn) := by
      rw [← e1, HL.out, List.length_append, hh, HL.out, show a + bn - (h + bn) = a - h from by omega, List.append_assoc (R.take a), List.take_append_of_le_length (by omega), List.take_take, Nat.min_eq_left (by omega), List.drop_append_of_le_length (by omega), List.drop_take_self]
      simp
    rw [hfinal] at hr3
    have hret : a - h = a + bn - en.length := by omega
    rw [hret]
    have HR3 := Hid.mk hr3
    have HT3 := Hid.mk (HT2.out.trans ht3)
    clear hr3 ht3 hfinal hret hle e1 hta hh
    go_wp2_with fail
    go_ret
    exact ⟨rfl, HR3.out, HT3.out⟩
end Go.Proofs.Ytmofehloiiopfaa

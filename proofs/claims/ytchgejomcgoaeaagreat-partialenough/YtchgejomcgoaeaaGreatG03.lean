/- What putHead writes. -/
import Derived.Test.YtchgejomcgoaeaaGreatG01
set_option linter.unusedVariables false
namespace Go.Proofs.YtchgejomcgoaeaaGreat
open Go.RowKit
variable {g j : Nat} {w : World} {u : T}
def Row (g : Nat) (w : World) (R : List Int) : Prop := w.heap[g]? = some (.cells (R.map (Value.int .u8)).toArray 5)
theorem Row.set {R : List Int} (h : Row g w R) (i : Nat) (x : Int) : Row g (w.setCell ⟨g, i, none⟩ (.int .u8 x)) (R.set i x) := by
  have := heap_setCell_same w g i _ 5 (.int .u8 x) h
  unfold Row
  rw [this]
  congr 2
  rw [List.setIfInBounds_toArray, List.map_set]
theorem Row.cell {R : List Int} (h : Row g w R) {i : Nat} (hi : i < R.length) : w.cell? ⟨g, i, none⟩ = some (.int .u8 (R.getD i 0)) := by
  rw [cell_of_row _ _ _ _ _ _ h]
  simp [List.getElem?_eq_getElem hi]
theorem Row.frozen {R : List Int} (h : Row g w R) (i : Nat) : w.frozen? ⟨g, i, none⟩ = false := frozen_of_row _ _ _ _ _ h
theorem Zkq (R tl : List Int) (a e : Nat) (v : Int) (ha : a + 1 ≤ R.length) : (R.take (a + 1) ++ tl ++ R.drop e).set a v = R.take a ++ (v :: tl) ++ R.drop e := by
  have h1 : R.take (a + 1) = R.take a ++ [R[a]] := by rw [List.take_add_one, List.getElem?_eq_getElem (by omega)]; rfl
  have h2 : (R.take a).length = a := by rw [List.length_take]; omega
  rw [h1, List.append_assoc, List.append_assoc, List.set_append_right _ _ (by omega), h2, Nat.sub_self]
  simp
set_option maxHeartbeats 1000000 in
theorem Zgj (g at_ S n b : Nat) (R : List Int) (w : World) (hR : Row g w R) (hS : R.length = S) (hat : at_ ≤ S) (hS2 : S ≤ 4611686018427387904) (hn : n < 16777216) (hb : b = 128 ∨ b = 192) (hfit : (hd b n).length ≤ at_) :
    Calls Tryz.prog 93 #[.slice (some ⟨g, 0, none⟩) S S, .int .i64 at_, .int .u8 b, .int .i64 n] w fun e w' => e = .returned (.int .i64 (at_ - (hd b n).length : Nat)) ∧ Row g w' (R.take (at_ - (hd b n).length) ++ hd b n ++ R.drop at_) ∧ Touch g w w' := by
  have hlen := hd_len b n
  have hb2 : b ≤ 192 := by omega
  by_cases h5 : n ≤ 55
  · have e1 : hd b n = [((b + n : Nat) : Int)] := by rw [hd, if_pos h5]
    rw [e1] at hfit ⊢
    simp only [List.length_singleton] at hfit ⊢
    obtain ⟨a, rfl⟩ : ∃ a, at_ = a + 1 := ⟨at_ - 1, by omega⟩
    have hcell := hR.cell (i := a) (by omega)
    have hfz := hR.frozen a
    have hset := Zkq R [] a (a + 1) ((b + n : Nat) : Int) (by omega)
    rw [List.append_nil, List.take_append_drop] at hset
    have hrow := hR.set a ((b + n : Nat) : Int)
    rw [hset] at hrow
    have HR := Hid.mk hrow
    have h55 : (n : Int) ≤ 55 := by omega
    clear hset hrow hR hlen e1 hfit hb
    go_enter Tryz.func93, Tryz.ntmps93
    go_wp2_with fail
    go_ret
    exact ⟨by simp, by simpa using HR.out, Touch.setCell _ _ _ _⟩
  · have e1 : hd b n = ((b + 55 + nb n : Nat) : Int) :: be n := by rw [hd, if_neg h5]
    have hnb := Zgq hn
    have hnb1 := Zx1 (n := n) (by omega)
    rw [if_pos (by omega)] at hlen
    rw [e1] at hlen hfit ⊢
    rw [hlen] at hfit ⊢
    obtain ⟨a0, rfl⟩ : ∃ a0, at_ = a0 + (1 + nb n) := ⟨at_ - (1 + nb n), by omega⟩
    rw [show a0 + (1 + nb n) - (1 + nb n) = a0 from by omega]
    obtain ⟨nbn, hnbn⟩ : ∃ k, nb n = k := ⟨_, rfl⟩
    obtain ⟨bn, hbn⟩ : ∃ k, be n = k := ⟨_, rfl⟩
    rw [hnbn] at hnb hnb1 hat ⊢
    rw [hbn]
    have HNB := Hid.mk hnbn
    have HBE := Hid.mk hbn
    have HR := Hid.mk hR
    have h55 : ¬ (n : Int) ≤ 55 := by omega
    clear hR hlen e1 hfit hb hnbn hbn
    go_enter Tryz.func93, Tryz.ntmps93
    go_wp2_with fail
    go_loopw [1, 9, 10] (fun p c q v => ∃ (a k r : Nat) (tl : List Int), p = .int .i64 a ∧ c = .int .i64 k ∧ q = .int .i64 r ∧ r ≤ n ∧ a = a0 + 1 + nb r ∧ k + nb r = nbn ∧ bn = be r ++ tl ∧ Row g v (R.take a ++ tl ++ R.drop (a0 + (1 + nbn))) ∧ Touch g w v) (fun _ _ q _ => (intOf q).toNat)
    case atStart => exact ⟨a0 + (1 + nbn), 0, n, [], rfl, rfl, rfl, Nat.le_refl _, by rw [HNB.out]; omega, by rw [HNB.out]; omega, by rw [List.append_nil]; exact HBE.out.symm, by rw [List.append_nil, List.take_append_drop]; exact HR.out, Touch.refl _ _⟩
    case round =>
      obtain ⟨a, k, r, tl, rfl, rfl, rfl, hrn, ha, hk, hbe, hrow, ht⟩ := hrel
      by_cases h0 : r = 0
      · subst h0
        rw [Zfa] at ha hk
        rw [Zek, List.nil_append] at hbe
        have ha' : a = a0 + 1 := by omega
        have hk' : k = nbn := by omega
        subst ha' hk' hbe
        have htl : (R.take (a0 + 1)).length = a0 + 1 := by rw [List.length_take]; omega
        have hcell := hrow.cell (i := a0) (by simp; omega)
        have hfz := hrow.frozen a0
        have hrow2 := hrow.set a0 ((b + 55 + k : Nat) : Int)
        rw [Zkq _ _ _ _ _ (by omega)] at hrow2
        have HRW := Hid.mk hrow2
        have HT := Hid.mk ht
        clear hrow hrow2 ht htl ha hk
        go_wp2_with fail
        go_ret
        exact ⟨by simp, by simpa using HRW.out, HT.out.trans (Touch.setCell _ _ _ _)⟩
      · rw [Zfl (by omega)] at ha hk
        rw [Zfr (by omega)] at hbe
        obtain ⟨a', rfl⟩ : ∃ a', a = a' + 1 := ⟨a - 1, by omega⟩
        have hr0 : (0 : Int) < r := by omega
        have htl : (R.take (a' + 1)).length = a' + 1 := by rw [List.length_take]; omega
        have hcell := hrow.cell (i := a') (by simp; omega)
        have hfz := hrow.frozen a'
        have hrow2 := hrow.set a' ((r % 256 : Nat) : Int)
        rw [Zkq _ _ _ _ _ (by omega)] at hrow2
        have HRW := Hid.mk hrow2
        have HT := Hid.mk ht
        have HBB := Hid.mk hbe
        have HAA := Hid.mk ha
        have HKK := Hid.mk hk
        have hka : a' + 1 ≤ S := by omega
        have hkb : k < 10 := by omega
        have hrb : r < 16777216 := by omega
        clear hrow hrow2 ht htl ha hk hbe
        go_wp2_with fail
        refine ⟨⟨a', k + 1, r / 256, ((r % 256 : Nat) : Int) :: tl, rfl, by simp, by simp, by omega, by have := HAA.out; omega, by have := HKK.out; omega, by rw [HBB.out, List.append_assoc]; rfl, by simpa using HRW.out, HT.out.trans (Touch.setCell _ _ _ _)⟩, ?_⟩
        simp [intOf]
        omega
theorem Zi4 {o dl dc bn bc : Nat} {ba da : Option Addr} {bs R : List Int} (hR : Row g w R) (hA : Ag w ba bn bc bs) (hdl : dl = bn) (hfit : o + bn ≤ R.length) (hda : 0 < bn → da = some ⟨g, o, none⟩) :
    ∃ w', (∀ ty, (Builtin.copy_ #[29, 29] ty #[.slice da dl dc, .slice ba bn bc]).run Tryz.prog w = .ok (.int .i64 bn) w') ∧ Row g w' (R.take o ++ bs ++ R.drop (o + bn)) ∧ Touch g w w' := by
  subst hdl
  have hl := hA.l
  by_cases h0 : dl = 0
  · subst h0
    have hb : bs = [] := List.eq_nil_of_length_eq_zero hl
    subst hb
    refine ⟨w, fun ty => ?_, by rw [List.append_nil, Nat.add_zero, List.take_append_drop]; exact hR, Touch.refl _ _⟩
    rw [run_copy_none (P := Tryz.prog) w 29 29 ty 5 _ _ _ _ _ _ Tryz.underlying29 (by kernel_rfl) (by simp)]
    rfl
  · obtain ⟨gb, off, rfl, h1, h2, h3⟩ := ag_head hA (by omega)
    have hda := hda (by omega)
    subst hda
    refine ⟨_, fun ty => ?_, ?_, Touch.setRow g w ((R.take o ++ bs ++ R.drop (o + dl)).map (Value.int .u8)).toArray⟩
    · rw [run_copy_row (P := Tryz.prog) w 29 29 ty 5 g o dl dc ⟨gb, off, none⟩ dl bc _ 5 (bs.map (Value.int .u8)) Tryz.underlying29 (by kernel_rfl) hR (by simp [hl]) ?_ (by simp; omega) (B8_one2 _)]
      · congr 1
        · simp [goInt, hl]
        · congr 2
          simp [List.map_append, List.map_take, List.map_drop, hl]
      · intro j v hv
        have hj : j < dl := by have := (List.getElem?_eq_some_iff.1 hv).1; simpa [hl] using this
        rw [Zbb, h3 j hj, ← hv]
        simp [List.getElem?_eq_getElem (show j < bs.length by omega)]
    · exact setRow_heap _ _ _ _ _ _ hR
theorem step_copy {P : Program} {ops : Array Oper} {o : Oper} {a : Act} {w : World} {K : Act → World → Prop} {Q : Exit → Act → World → Prop} {E : Prop}
    (hg : o.guard = none) (d x : Operand) (dT sT : TypeId) (hop : o.op = Op.call { callee := Callee.builtin Builtin.copy, args := #[d, x], argTypes := #[dT, sT] })
    (v u : Value) (hd : a.eval d = v) (hx : a.eval x = u) {v' : Value} {w' : World} (hr : (Builtin.copy_ #[dT, sT] o.type #[v, u]).run P w = .ok v' w') (hK : K (a.put o.dst v') w') :
    if Region.wanted o (yielded ops a.tmps) = true then Oper.wp P o a w K Q else E := by
  have hw : Region.wanted o (yielded ops a.tmps) = true := by simp [Region.wanted, hg]
  rw [if_pos hw]
  unfold Oper.wp
  simp [execOp, hop, resolve, invoke, builtin, hd, hx, hr, Result.andThen]
  exact hK
theorem Zmo {bs : List Int} : enc (.mk false bs []) = if bare false bs then bs else hd 128 bs.length ++ bs := by rw [Zb9, Za4, List.append_nil]; rfl
set_option maxHeartbeats 1000000 in
theorem Zr6 (bs : List Int) (x : V) (g S fin : Nat) (R : List Int) (w0 w : World) (hli : Lies w0 (.mk false bs []) x) (hbel : Below w0.heap.size w0 w) (hg : w0.heap.size ≤ g) (hR : Row g w R) (hS : R.length = S) (hfin : fin ≤ S) (hS2 : S ≤ 4611686018427387904) (hbody : bs.length < 16777216) (hfit : (enc (.mk false bs [])).length ≤ fin) :
    Calls Tryz.prog 58 #[.slice (some ⟨g, 0, none⟩) S S, .int .i64 fin, .agg #[.bool x.l, .slice x.ba x.bn x.bc, .slice x.ia x.m x.ic]] w fun e w' => e = .returned (.int .i64 (fin - (enc (.mk false bs [])).length : Nat)) ∧ Row g w' (R.take (fin - (enc (.mk false bs [])).length) ++ enc (.mk false bs []) ++ R.drop fin) ∧ Touch g w w' := by
  obtain ⟨l', ba, bn, bc, ia, m, ic⟩ := x
  obtain ⟨h1, h2, h3, h4, h5, ⟨h7, h8⟩, h6⟩ := lies_eq.1 hli
  simp only at h1 h2 h3 h4 h5 h6 h7 h8 ⊢
  subst h1
  simp only [List.length_nil] at h3
  have hl := h2.l
  have hgl := lt_of_get hR
  have hA := h2.at hbel
  have hlen : bs.length ≤ (enc (.mk false bs [])).length := by rw [Zmo]; split <;> simp
  obtain ⟨a, ha⟩ : ∃ a, fin = a + bn := ⟨fin - bn, by omega⟩
  subst ha
  have hR1 : Row g (w.alloc (.cells #[.bool false, .slice ba bn bc, .slice ia m ic] 76)).drew R := (Below.heap_alloc _ _ _ hgl).trans hR
  have hbw : Below w.heap.size w (w.alloc (.cells #[.bool false, .slice ba bn bc, .slice ia m ic] 76)).drew := ((Below.refl _ _).alloc (Nat.le_refl _) _).drew
  obtain ⟨w1, hrun, hrow, ht⟩ := Zi4 (o := a) (dl := ((a : Int) + bn).toNat - a) (dc := S - a) (da := if S = a then some ⟨g, 0, none⟩ else some ⟨g, a, none⟩) hR1 (hA.at hbw) (by omega) (by omega) (fun h => if_neg (by omega))
  have hA1 : Ag w1 ba bn bc bs := h2.at (Touch.below (hbel.alloc hbel.size _).drew ht hg (by have := hbel.size; simp; omega))
  have hx : w1.heap[w.heap.size]? = some (.cells #[.bool false, .slice ba bn bc, .slice ia m ic] 76) := (ht.block _ (by simp) (by omega)).trans (heap_alloc_new _ _)
  have y0 : w1.cell? ⟨w.heap.size, 0, none⟩ = some (.bool false) := by rw [cell_of_row _ _ _ _ _ _ hx]; rfl
  have y1 : w1.cell? ⟨w.heap.size, 1, none⟩ = some (.slice ba bn bc) := by rw [cell_of_row _ _ _ _ _ _ hx]; rfl
  have y2 : w1.cell? ⟨w.heap.size, 2, none⟩ = some (.slice ia m ic) := by rw [cell_of_row _ _ _ _ _ _ hx]; rfl
  have hT : Touch g w w1 := (Touch.of_below hbw).trans ht
  have HRUN := Hid.mk hrun
  have hab : (a : Int) ≤ (a : Int) + bn := by omega
  have hbnS : (a : Int) + bn ≤ S := by omega
  obtain ⟨en, hen⟩ : ∃ en, enc (.mk false bs []) = en := ⟨_, rfl⟩
  rw [hen] at hfit ⊢
  rw [Zmo] at hen
  have HEN := Hid.mk hen
  have HROW := Hid.mk hrow
  have HA1 := Hid.mk hA1
  have HT := Hid.mk hT
  have HX := Hid.mk hx
  have HL := Hid.mk hl
  clear hrun hrow ht hA1 hx hT hR1 hbw hA hli h2 h3 h6 hR hen hl hlen
  go_enter Tryz.func58, Tryz.ntmps58
  go_wp2_with fail
  go_cut [0] (fun o v => o = .slice (some ⟨g, 0, none⟩) S S ∧ v = w1)
  case first =>
    go_region_law (refine step_copy rfl _ _ _ _ rfl _ _ rfl rfl (HRUN.out _) ?_)
    all_goals
      go_wp2_with fail
      all_goals
        go_meet
        case rel => exact ⟨by simp [*], rfl⟩
  case rest =>
  obtain ⟨rfl, rfl⟩ := hcut
  go_wp2_with fail
  refine (Zmz false ba bn bc ia m ic bs _ HA1.out).mono ?_
  rintro e w2 ⟨rfl, hb2⟩
  have hT2 : Touch g w w2 := HT.out.trans (Touch.of_below hb2)
  have hrow2 : Row g w2 (R.take a ++ bs ++ R.drop (a + bn)) := Below.row hb2 HROW.out
  have hx2 := Below.row hb2 HX.out
  by_cases hbr : bare false bs = true
  · have e1 := HEN.out
    rw [if_pos hbr] at e1
    subst e1
    rw [hbr]
    have HR2 := Hid.mk hrow2
    have HT2 := Hid.mk hT2
    clear hrow2 hT2 hx2 y0 y1 y2
    go_wp2_with fail
    go_ret
    rw [HL.out, show a + bn - bn = a from by omega]
    exact ⟨rfl, HR2.out, HT2.out⟩
  · have e1 := HEN.out
    rw [if_neg hbr] at e1
    have hbr2 : bare false bs = false := by simpa using hbr
    rw [hbr2]
    have hle : en.length = (hd 128 bn).length + bn := by rw [← e1, List.length_append, HL.out]
    have hRl : (R.take a ++ bs ++ R.drop (a + bn)).length = S := by simp [HL.out]; omega
    have y0 : w2.cell? ⟨w.heap.size, 0, none⟩ = some (.bool false) := by rw [cell_of_row _ _ _ _ _ _ hx2]; rfl
    have y1 : w2.cell? ⟨w.heap.size, 1, none⟩ = some (.slice ba bn bc) := by rw [cell_of_row _ _ _ _ _ _ hx2]; rfl
    have hcal := Zgj g a S bn 128 (R.take a ++ bs ++ R.drop (a + bn)) w2 hrow2 hRl (by omega) hS2 (by rw [HL.out] at hbody; exact hbody) (.inl rfl) (by omega)
    rw [show ((128 : Nat) : Int) = 128 from rfl] at hcal
    have HCAL := Hid.mk hcal
    have HT2 := Hid.mk hT2
    have HE1 := Hid.mk e1
    have HLE := Hid.mk hle
    clear hcal hRl hx2 hrow2 hT2 e1 hle
    go_wp2_with fail
    refine HCAL.out.mono ?_
    rintro e w3 ⟨rfl, hr3, ht3⟩
    have hle := HLE.out
    have e1 := HE1.out
    have hta : (R.take a).length = a := by rw [List.length_take]; omega
    obtain ⟨h, hh⟩ : ∃ h, (hd 128 bn).length = h := ⟨_, rfl⟩
    rw [hh] at hr3 hle ⊢
    have hfinal : List.take (a - h) (R.take a ++ bs ++ R.drop (a + bn)) ++ hd 128 bn ++ List.drop a (R.take a ++ bs ++ R.drop (a + bn)) = R.take (a + bn - en.length) ++ en ++ R.drop (a + bn) := by
      rw [← e1, HL.out, List.length_append, hh, HL.out, show a + bn - (h + bn) = a - h from by omega, List.append_assoc (R.take a), List.take_append_of_le_length (by omega), List.take_take, Nat.min_eq_left (by omega), List.drop_append_of_le_length (by omega), List.drop_take_self]
      simp
    rw [hfinal] at hr3
    have hret : a - h = a + bn - en.length := by omega
    rw [hret]
    have HR3 := Hid.mk hr3
    have HT3 := Hid.mk (HT2.out.trans ht3)
    clear hr3 ht3 hfinal hret hle e1 hta hh
    go_wp2_with fail
    go_ret
    exact ⟨rfl, HR3.out, HT3.out⟩
theorem Ztc {its : List T} : enc (.mk true [] its) = hd 192 (encs its).length ++ encs its := by rw [Zb9, List.nil_append, if_neg (by simp [bare])]; rfl
theorem Zf1 {its : List T} (h : its[j]? = some u) : encs (its.drop j) = enc u ++ encs (its.drop (j + 1)) := by
  obtain ⟨hj, e⟩ := List.getElem?_eq_some_iff.1 h
  rw [List.drop_eq_getElem_cons hj, Za9, e]
theorem Zh1 (its : List T) (j : Nat) : encs its = encs (its.take j) ++ encs (its.drop j) := by rw [← Zej, List.take_append_drop]
def PutSaid (t : T) : Prop := ∀ (x : V) (g S fin : Nat) (R : List Int) (w0 w : World), Lies w0 t x → Below w0.heap.size w0 w → w0.heap.size ≤ g → Row g w R → R.length = S → fin ≤ S → S ≤ 4611686018427387904 → (bodyOf t).length < 16777216 → (enc t).length ≤ fin →
    Calls Tryz.prog 58 #[.slice (some ⟨g, 0, none⟩) S S, .int .i64 fin, .agg #[.bool x.l, .slice x.ba x.bn x.bc, .slice x.ia x.m x.ic]] w fun e w' => e = .returned (.int .i64 (fin - (enc t).length : Nat)) ∧ Row g w' (R.take (fin - (enc t).length) ++ enc t ++ R.drop fin) ∧ Touch g w w'
theorem Zwm {its : List T} (h : its[j]? = some u) : (enc u).length + (encs (its.drop (j + 1))).length ≤ (encs its).length := by
  have := congrArg List.length (Zh1 its j)
  rw [Zf1 h] at this
  simp only [List.length_append] at this
  omega
theorem Zuc (t : T) : (bodyOf t).length ≤ (enc t).length := by
  cases t with
  | mk l bs its =>
    rw [Zb9]
    show (bs ++ encs its).length ≤ _
    split <;> simp
theorem Zol (R E F : List Int) (a len fin : Nat) (ha : a ≤ R.length) (hl : E.length = len) (hla : len ≤ a) : List.take (a - len) (R.take a ++ F ++ R.drop fin) ++ E ++ List.drop a (R.take a ++ F ++ R.drop fin) = R.take (a - len) ++ (E ++ F) ++ R.drop fin := by
  have hta : (R.take a).length = a := by rw [List.length_take]; omega
  rw [List.append_assoc (R.take a), List.take_append_of_le_length (by omega), List.take_take, Nat.min_eq_left (by omega), List.drop_append_of_le_length (by omega), List.drop_take_self]
  simp
set_option maxHeartbeats 1000000 in
theorem Zr9 (its : List T) (ih : ∀ u ∈ its, form u = true → PutSaid u) (hform : forms its = true) : PutSaid (.mk true [] its) := by
  intro x g S fin R w0 w hli hbel hg hR hS hfin hS2 hbody hfit
  obtain ⟨l', ba, bn, bc, ia, m, ic⟩ := x
  obtain ⟨h1, h2, h3, h4, h5, ⟨h7, h8⟩, h6⟩ := lies_eq.1 hli
  simp only at h1 h2 h3 h4 h5 h6 h7 h8 ⊢
  subst h1
  have hbody2 : (encs its).length < 16777216 := by simpa [bodyOf, T.bs, T.its] using hbody
  obtain ⟨en, hen⟩ : ∃ en, enc (.mk true [] its) = en := ⟨_, rfl⟩
  rw [hen] at hfit ⊢
  rw [Ztc] at hen
  have hle : en.length = (hd 192 (encs its).length).length + (encs its).length := by rw [← hen, List.length_append]
  have hgl := lt_of_get hR
  have HR := Hid.mk hR
  have H3 := Hid.mk h3
  have H6 := Hid.mk h6
  have HI := Hid.mk ih
  have HF := Hid.mk (Zbt hform)
  have HEN := Hid.mk hen
  have HLE := Hid.mk hle
  have hic : ic ≤ 2 ^ 63 - 1 := h5
  clear hR h3 h6 ih hen hle hbody hli h2 hform
  go_enter Tryz.func58, Tryz.ntmps58
  go_wp2_with fail
  have hR1 : Row g (w.alloc (.cells #[.bool true, .slice ba bn bc, .slice ia m ic] 76)) R := (Below.heap_alloc _ _ _ hgl).trans HR.out
  have HR1 := Hid.mk hR1
  clear hR1
  go_loopw [8, 9] (fun p i v => ∃ k a : Nat, k ≤ m ∧ p = .int .i64 a ∧ i = .int .i64 ((k : Int) - 1) ∧ a + (encs (its.drop k)).length = fin ∧ Row g v (R.take a ++ encs (its.drop k) ++ R.drop fin) ∧ Touch g (w.alloc (.cells #[.bool true, .slice ba bn bc, .slice ia m ic] 76)) v) (fun _ i _ => (intOf i + 1).toNat)
  case atStart => exact ⟨m, fin, Nat.le_refl _, rfl, rfl, by rw [List.drop_of_length_le (by have := H3.out; omega), Za4]; rfl, by rw [List.drop_of_length_le (by have := H3.out; omega), Za4, List.append_nil, List.take_append_drop]; exact HR1.out, Touch.refl _ _⟩
  case round =>
    obtain ⟨k, a, hk, rfl, rfl, ha, hrow, ht⟩ := hrel
    have hx : wr.heap[w.heap.size]? = some (.cells #[.bool true, .slice ba bn bc, .slice ia m ic] 76) := (ht.block _ (by simp) (by omega)).trans (heap_alloc_new _ _)
    have y0 : wr.cell? ⟨w.heap.size, 0, none⟩ = some (.bool true) := by rw [cell_of_row _ _ _ _ _ _ hx]; rfl
    have y1 : wr.cell? ⟨w.heap.size, 1, none⟩ = some (.slice ba bn bc) := by rw [cell_of_row _ _ _ _ _ _ hx]; rfl
    have y2 : wr.cell? ⟨w.heap.size, 2, none⟩ = some (.slice ia m ic) := by rw [cell_of_row _ _ _ _ _ _ hx]; rfl
    clear hx
    cases k with
    | succ j =>
      have hj : j < its.length := by have := H3.out; omega
      obtain ⟨u, hu⟩ : ∃ u, its[j]? = some u := ⟨_, List.getElem?_eq_getElem hj⟩
      have hmem : u ∈ its := List.mem_of_getElem? hu
      obtain ⟨gi, off, y, hat⟩ := Zd2 H6.out j u hu
      rw [Nat.zero_add] at hat
      have hb : Below w0.heap.size w0 wr := Touch.below (hbel.alloc hbel.size _) ht hg (by have := hbel.size; simp; omega)
      obtain ⟨rfl, a0, a1, a2, ali⟩ := hat
      have c0' := (hb.cell (p := ⟨gi, off + j * 3, none⟩) (block_lt_of_cell a0)).trans a0
      have c1' := (hb.cell (p := ⟨gi, off + j * 3 + 1, none⟩) (block_lt_of_cell a1)).trans a1
      have c2' := (hb.cell (p := ⟨gi, off + j * 3 + 2, none⟩) (block_lt_of_cell a2)).trans a2
      have hbl := Zwm hu
      have henc : (enc u).length ≤ a := by have := congrArg List.length (Zh1 its j); rw [Zf1 hu] at this; simp only [List.length_append] at this; have := HLE.out; omega
      have haS : a ≤ R.length := by omega
      have hRl : (R.take a ++ encs (its.drop (j + 1)) ++ R.drop fin).length = S := by simp; omega
      have hcal := HI.out u hmem (HF.out u hmem) y g S a _ w0 wr ali hb hg hrow hRl (by omega) hS2 (by have := Zuc u; omega) henc
      rw [Zol R (enc u) _ a _ fin haS rfl henc, ← Zf1 hu] at hcal
      have hdl : a - (enc u).length + (encs (its.drop j)).length = fin := by rw [Zf1 hu, List.length_append]; omega
      have HCAL := Hid.mk hcal
      have HDL := Hid.mk hdl
      have HT := Hid.mk ht
      rw [show (((j + 1 : Nat) : Int) - 1) = (j : Int) from by omega]
      have hj0 : (0 : Int) ≤ j := by omega
      have hjm : (j : Int) < m := by omega
      have hjm2 : j < m := by omega
      clear hcal hdl ht hrow a0 a1 a2 ali hb hbl hRl ha
      go_wp2_with fail
      refine HCAL.out.mono ?_
      rintro e w1 ⟨rfl, hr1, ht1⟩
      have HR2 := Hid.mk hr1
      have HT2 := Hid.mk (HT.out.trans ht1)
      clear hr1 ht1
      go_wp2_with fail
      refine ⟨⟨j, a - (enc u).length, by omega, rfl, rfl, HDL.out, HR2.out, HT2.out⟩, ?_⟩
      simp [intOf]
    | zero =>
      rw [List.drop_zero] at ha hrow
      have hle := HLE.out
      have hRl : (R.take a ++ encs its ++ R.drop fin).length = S := by simp; omega
      have hcal := Zgj g a S (encs its).length 192 _ wr hrow hRl (by omega) hS2 hbody2 (.inr rfl) (by omega)
      rw [Zol R _ _ a _ fin (by omega) rfl (by omega), HEN.out, show a - (hd 192 (encs its).length).length = fin - en.length from by omega] at hcal
      rw [show ((192 : Nat) : Int) = 192 from rfl] at hcal
      have hfa : fin = a + (encs its).length := ha.symm
      obtain ⟨nn, hnn⟩ : ∃ nn, (encs its).length = nn := ⟨_, rfl⟩
      rw [hnn] at hcal hfa hbody2
      have HCAL := Hid.mk hcal
      have HT := Hid.mk ht
      have HFA := Hid.mk hfa
      have hfi : (fin : Int) - a = nn := by omega
      have HFI := Hid.mk hfi
      clear hcal ht hrow hle ha hRl hnn hfa hfi
      rw [show (((0 : Nat) : Int) - 1) = -1 from rfl]
      have haf : (a : Int) ≤ fin := by have := HFA.out; omega
      have hff : fin < 9223372036854775807 := by omega
      go_wp2_with fail
      rw [HFI.out]
      refine HCAL.out.mono ?_
      rintro e w1 ⟨rfl, hr1, ht1⟩
      have HR2 := Hid.mk hr1
      have HT2 := Hid.mk ((Touch.of_below ((Below.refl _ _).alloc (Nat.le_refl _) _)).trans (HT.out.trans ht1))
      clear hr1 ht1
      go_wp2_with fail
      go_ret
      exact ⟨rfl, HR2.out, HT2.out⟩
theorem Zvc : ∀ t, form t = true → PutSaid t := by
  refine T.ind fun l bs its ih h => ?_
  cases l with
  | false =>
    have := Zc7 h
    subst this
    intro x g S fin R w0 w hli hbel hg hR hS hfin hS2 hbody hfit
    exact Zr6 bs x g S fin R w0 w hli hbel hg hR hS hfin hS2 (by simpa [bodyOf, T.bs, T.its, Za4] using hbody) hfit
  | true =>
    obtain ⟨h1, h2⟩ := Zez h
    subst h1
    exact Zr9 its ih h2
end Go.Proofs.YtchgejomcgoaeaaGreat

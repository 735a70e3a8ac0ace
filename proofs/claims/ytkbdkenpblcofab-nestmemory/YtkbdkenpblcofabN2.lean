/- What put writes of a text. -/
import Derived.Test.YtkbdkenpblcofabN1
namespace Go.Proofs.Ytkbdkenpblcofab
open Go.RowKit
set_option linter.unusedVariables false
theorem copy_row {w : World} {g o dl dc bn bc : Nat} {ba da : Option Addr} {bs R : List Int} (hR : Row g w R) (hA : Ag w ba bn bc bs) (hdl : dl = bn) (hfit : o + bn ≤ R.length) (hda : 0 < bn → da = some ⟨g, o, none⟩) :
    ∃ w', (∀ ty, (Builtin.copy_ #[23, 23] ty #[.slice da dl dc, .slice ba bn bc]).run Try.prog w = .ok (.int .i64 bn) w') ∧ Row g w' (R.take o ++ bs ++ R.drop (o + bn)) ∧ Touch g w w' := by
  subst hdl
  have hl := hA.l
  by_cases h0 : dl = 0
  · subst h0
    have hb : bs = [] := List.eq_nil_of_length_eq_zero hl
    subst hb
    refine ⟨w, fun ty => ?_, by rw [List.append_nil, Nat.add_zero, List.take_append_drop]; exact hR, Touch.refl _ _⟩
    rw [run_copy_none (P := Try.prog) w 23 23 ty 5 _ _ _ _ _ _ Try.underlying23 (by kernel_rfl) (by simp)]
    rfl
  · obtain ⟨gb, off, rfl, h1, h2, h3⟩ := ag_head hA (by omega)
    have hda := hda (by omega)
    subst hda
    refine ⟨_, fun ty => ?_, ?_, Touch.setRow g w ((R.take o ++ bs ++ R.drop (o + dl)).map (Value.int .u8)).toArray⟩
    · rw [run_copy_row (P := Try.prog) w 23 23 ty 5 g o dl dc ⟨gb, off, none⟩ dl bc _ 5 (bs.map (Value.int .u8)) Try.underlying23 (by kernel_rfl) hR (by simp [hl]) ?_ (by simp; omega) (B8_one2 _)]
      · congr 1
        · simp [goInt, hl]
        · congr 2
          simp [List.map_append, List.map_take, List.map_drop, hl]
      · intro j v hv
        have hj : j < dl := by have := (List.getElem?_eq_some_iff.1 hv).1; simpa [hl] using this
        rw [addr_add, h3 j hj, ← hv]
        simp [List.getElem?_eq_getElem (show j < bs.length by omega)]
    · exact setRow_heap _ _ _ _ _ _ hR
theorem step_copy {P : Program} {ops : Array Oper} {o : Oper} {a : Act} {w : World} {K : Act → World → Prop} {Q : Exit → Act → World → Prop} {E : Prop}
    (hg : o.guard = none) (d x : Operand) (dT sT : TypeId) (hop : o.op = Op.call { callee := Callee.builtin Builtin.copy, args := #[d, x], argTypes := #[dT, sT] })
    (v u : Value) (hd : a.eval d = v) (hx : a.eval x = u) {v' : Value} {w' : World} (hr : (Builtin.copy_ #[dT, sT] o.type #[v, u]).run P w = .ok v' w') (hK : K (a.put o.dst v') w') :
    if Region.wanted o (yielded ops a.tmps) = true then Oper.wp P o a w K Q else E := by
  have hw : Region.wanted o (yielded ops a.tmps) = true := by simp [Region.wanted, hg]
  rw [if_pos hw]
  unfold Oper.wp
  simp [execOp, hop, resolve, invoke, builtin, hd, hx, hr, Result.andThen]
  exact hK
theorem enc_text {bs : List Int} : enc (.mk false bs []) = if bare false bs then bs else hd 128 bs.length ++ bs := by rw [enc_eq, encs_nil, List.append_nil]; rfl
set_option maxHeartbeats 1000000 in
theorem put_text (bs : List Int) (x : V) (g S fin : Nat) (R : List Int) (w0 w : World) (hli : Lies w0 (.mk false bs []) x) (hbel : Below w0.heap.size w0 w) (hg : w0.heap.size ≤ g) (hR : Row g w R) (hS : R.length = S) (hfin : fin ≤ S) (hS2 : S ≤ 4611686018427387904) (hbody : bs.length < 16777216) (hfit : (enc (.mk false bs [])).length ≤ fin) :
    Calls Try.prog 18 #[.slice (some ⟨g, 0, none⟩) S S, .int .i64 fin, .agg #[.bool x.l, .slice x.ba x.bn x.bc, .slice x.ia x.m x.ic]] w fun e w' => e = .returned (.int .i64 (fin - (enc (.mk false bs [])).length : Nat)) ∧ Row g w' (R.take (fin - (enc (.mk false bs [])).length) ++ enc (.mk false bs []) ++ R.drop fin) ∧ Touch g w w' := by
  obtain ⟨l', ba, bn, bc, ia, m, ic⟩ := x
  obtain ⟨h1, h2, h3, h4, h5, ⟨h7, h8⟩, h6⟩ := lies_eq.1 hli
  simp only at h1 h2 h3 h4 h5 h6 h7 h8 ⊢
  subst h1
  simp only [List.length_nil] at h3
  have hl := h2.l
  have hgl := lt_of_get hR
  have hA := h2.at hbel
  have hlen : bs.length ≤ (enc (.mk false bs [])).length := by rw [enc_text]; split <;> simp
  obtain ⟨a, ha⟩ : ∃ a, fin = a + bn := ⟨fin - bn, by omega⟩
  subst ha
  have hR1 : Row g (w.alloc (.cells #[.bool false, .slice ba bn bc, .slice ia m ic] 25)).drew R := (Below.heap_alloc _ _ _ hgl).trans hR
  have hbw : Below w.heap.size w (w.alloc (.cells #[.bool false, .slice ba bn bc, .slice ia m ic] 25)).drew := ((Below.refl _ _).alloc (Nat.le_refl _) _).drew
  obtain ⟨w1, hrun, hrow, ht⟩ := copy_row (o := a) (dl := ((a : Int) + bn).toNat - a) (dc := S - a) (da := if S = a then some ⟨g, 0, none⟩ else some ⟨g, a, none⟩) hR1 (hA.at hbw) (by omega) (by omega) (fun h => if_neg (by omega))
  have hA1 : Ag w1 ba bn bc bs := h2.at (Touch.below (hbel.alloc hbel.size _).drew ht hg (by have := hbel.size; simp; omega))
  have hx : w1.heap[w.heap.size]? = some (.cells #[.bool false, .slice ba bn bc, .slice ia m ic] 25) := (ht.block _ (by simp) (by omega)).trans (heap_alloc_new _ _)
  have y0 : w1.cell? ⟨w.heap.size, 0, none⟩ = some (.bool false) := by rw [cell_of_row _ _ _ _ _ _ hx]; rfl
  have y1 : w1.cell? ⟨w.heap.size, 1, none⟩ = some (.slice ba bn bc) := by rw [cell_of_row _ _ _ _ _ _ hx]; rfl
  have y2 : w1.cell? ⟨w.heap.size, 2, none⟩ = some (.slice ia m ic) := by rw [cell_of_row _ _ _ _ _ _ hx]; rfl
  have hT : Touch g w w1 := (Touch.of_below hbw).trans ht
  have HRUN := Hid.mk hrun
  have hab : (a : Int) ≤ (a : Int) + bn := by omega
  have hbnS : (a : Int) + bn ≤ S := by omega
  obtain ⟨en, hen⟩ : ∃ en, enc (.mk false bs []) = en := ⟨_, rfl⟩
  rw [hen] at hfit ⊢
  rw [enc_text] at hen
  have HEN := Hid.mk hen
  have HROW := Hid.mk hrow
  have HA1 := Hid.mk hA1
  have HT := Hid.mk hT
  have HX := Hid.mk hx
  have HL := Hid.mk hl
  clear hrun hrow ht hA1 hx hT hR1 hbw hA hli h2 h3 h6 hR hen hl hlen
  go_enter Try.func18, Try.ntmps18
  go_wp2_with fail
  go_cut [0] (fun o v => o = .slice (some ⟨g, 0, none⟩) S S ∧ v = w1)
  case first =>
    go_region_law (refine step_copy rfl _ _ _ _ rfl _ _ rfl rfl (HRUN.out _) ?_)
    all_goals
      go_wp2_with fail
      all_goals
        go_meet
        case rel => exact ⟨by simp [*], rfl⟩
  case rest =>
  obtain ⟨rfl, rfl⟩ := hcut
  go_wp2_with fail
  refine (bare_any false ba bn bc ia m ic bs _ HA1.out).mono ?_
  rintro e w2 ⟨rfl, hb2⟩
  have hT2 : Touch g w w2 := HT.out.trans (Touch.of_below hb2)
  have hrow2 : Row g w2 (R.take a ++ bs ++ R.drop (a + bn)) := Below.row hb2 HROW.out
  have hx2 := Below.row hb2 HX.out
  by_cases hbr : bare false bs = true
  · have e1 := HEN.out
    rw [if_pos hbr] at e1
    subst e1
    rw [hbr]
    have HR2 := Hid.mk hrow2
    have HT2 := Hid.mk hT2
    clear hrow2 hT2 hx2 y0 y1 y2
    go_wp2_with fail
    go_ret
    rw [HL.out, show a + bn - bn = a from by omega]
    exact ⟨rfl, HR2.out, HT2.out⟩
  · have e1 := HEN.out
    rw [if_neg hbr] at e1
    have hbr2 : bare false bs = false := by simpa using hbr
    rw [hbr2]
    have hle : en.length = (hd 128 bn).length + bn := by rw [← e1, List.length_append, HL.out]
    have hRl : (R.take a ++ bs ++ R.drop (a + bn)).length = S := by simp [HL.out]; omega
    have y0 : w2.cell? ⟨w.heap.size, 0, none⟩ = some (.bool false) := by rw [cell_of_row _ _ _ _ _ _ hx2]; rfl
    have y1 : w2.cell? ⟨w.heap.size, 1, none⟩ = some (.slice ba bn bc) := by rw [cell_of_row _ _ _ _ _ _ hx2]; rfl
    have hcal := putHead_any g a S bn 128 (R.take a ++ bs ++ R.drop (a + bn)) w2 hrow2 hRl (by omega) hS2 (by rw [HL.out] at hbody; exact hbody) (.inl rfl) (by omega)
    rw [show ((128 : Nat) : Int) = 128 from rfl] at hcal
    have HCAL := Hid.mk hcal
    have HT2 := Hid.mk hT2
    have HE1 := Hid.mk e1
    have HLE := Hid.mk hle
    clear hcal hRl hx2 hrow2 hT2 e1 hle
    go_wp2_with fail
    refine HCAL.out.mono ?_
    rintro e w3 ⟨rfl, hr3, ht3⟩
    have hle := HLE.out
    have e1 := HE1.out
    have hta : (R.take a).length = a := by rw [List.length_take]; omega
    obtain ⟨h, hh⟩ : ∃ h, (hd 128 bn).length = h := ⟨_, rfl⟩
    rw [hh] at hr3 hle ⊢
    have hfinal : List.take (a - h) (R.take a ++ bs ++ R.drop (a + bn)) ++ hd 128 bn ++ List.drop a (R.take a ++ bs ++ R.drop (a + bn)) = R.take (a + bn - en.length) ++ en ++ R.drop (a + bn) := by
      rw [← e1, HL.out, List.length_append, hh, HL.out, show a + bn - (h + bn) = a - h from by omega, List.append_assoc (R.take a), List.take_append_of_le_length (by omega), List.take_take, Nat.min_eq_left (by omega), List.drop_append_of_le_length (by omega), List.drop_take_self]
      simp
    rw [hfinal] at hr3
    have hret : a - h = a + bn - en.length := by omega
    rw [hret]
    have HR3 := Hid.mk hr3
    have HT3 := Hid.mk (HT2.out.trans ht3)
    clear hr3 ht3 hfinal hret hle e1 hta hh
    go_wp2_with fail
    go_ret
    exact ⟨rfl, HR3.out, HT3.out⟩
end Go.Proofs.Ytkbdkenpblcofab

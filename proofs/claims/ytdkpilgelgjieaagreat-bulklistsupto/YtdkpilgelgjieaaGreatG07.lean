/- What put writes of a text. -/
import Derived.Test.YtdkpilgelgjieaaGreatG06
import Derived.Deep.OwnRows
import Derived.Laws.OwnMore
import Derived.Test.YtdkpilgelgjieaaGreatG05
set_option linter.unusedVariables false
namespace Go.Proofs.YtdkpilgelgjieaaGreat
open Go.RowKit
theorem Zlb {w : World} {g o dl dc bn bc : Nat} {ba da : Option Addr} {bs R : List Int} (hR : Row g w R) (hA : Ag w ba bn bc bs) (hdl : dl = bn) (hfit : o + bn <= R.length) (hda : 0 < bn -> da = some ⟨g, o, none⟩) :
  ∃ w', (∀ ty, (Builtin.copy_ #[32, 32] ty #[.slice da dl dc, .slice ba bn bc]).run Tryz.prog w = .ok (.int .i64 bn) w') /\ Row g w' (R.take o ++ bs ++ R.drop (o + bn)) /\ Touch g w w' := by
 subst hdl
 have hl := hA.l
 by_cases h0 : dl = 0
 ·subst h0
  have hb : bs = [] := List.eq_nil_of_length_eq_zero hl
  subst hb
  refine ⟨w, fun ty => ?_, by rw [List.append_nil, Nat.add_zero, List.take_append_drop]; exact hR, Touch.refl _ _⟩
  rw [run_copy_none (P := Tryz.prog) w 32 32 ty 5 _ _ _ _ _ _ Tryz.underlying32 (by kernel_rfl) (by simp)]
  rfl
 ·obtain ⟨gb, off, rfl, h1, h2, h3⟩ := ag_head hA (by omega)
  have hda := hda (by omega)
  subst hda
  refine ⟨_, fun ty => ?_, ?_, Touch.setRow g w ((R.take o ++ bs ++ R.drop (o + dl)).map (Value.int .u8)).toArray⟩
  ·rw [run_copy_row (P := Tryz.prog) w 32 32 ty 5 g o dl dc ⟨gb, off, none⟩ dl bc _ 5 (bs.map (Value.int .u8)) Tryz.underlying32 (by kernel_rfl) hR (by simp [hl]) ?_ (by simp; omega) (B8_one2 _)]
   ·congr 1
    ·simp [goInt, hl]
    ·congr 2
     simp [List.map_append, List.map_take, List.map_drop, hl]
   ·intro j v hv
    have hj : j < dl := by have := (List.getElem?_eq_some_iff.1 hv).1; simpa [hl] using this
    rw [Zax, h3 j hj, <- hv]
    simp [List.getElem?_eq_getElem (show j < bs.length by omega)]
  ·exact setRow_heap _ _ _ _ _ _ hR
theorem step_copy {P : Program} {ops : Array Oper} {o : Oper} {a : Act} {w : World} {K : Act -> World -> Prop} {Q : Exit -> Act -> World -> Prop} {E : Prop}
  (hg : o.guard = none) (d x : Operand) (dT sT : TypeId) (hop : o.op = Op.call { callee := Callee.builtin Builtin.copy, args := #[d, x], argTypes := #[dT, sT] })
  (v u : Value) (hd : a.eval d = v) (hx : a.eval x = u) {v' : Value} {w' : World} (hr : (Builtin.copy_ #[dT, sT] o.type #[v, u]).run P w = .ok v' w') (hK : K (a.put o.dst v') w') :
  if Region.wanted o (yielded ops a.tmps) = true then Oper.wp P o a w K Q else E := by
 have hw : Region.wanted o (yielded ops a.tmps) = true := by simp [Region.wanted, hg]
 rw [if_pos hw]
 unfold Oper.wp
 simp [execOp, hop, resolve, invoke, builtin, hd, hx, hr, Result.andThen]
 exact hK
theorem Zpc {bs : List Int} : enc (.mk false bs []) = if bare false bs then bs else hd 128 bs.length ++ bs := by rw [Zcl, Za2, List.append_nil]; rfl
set_option maxHeartbeats 1000000 in
theorem Zu0 (bs : List Int) (x : V) (g S fin : Nat) (R : List Int) (w0 w : World) (hli : Lies w0 (.mk false bs []) x) (hbel : Below w0.heap.size w0 w) (hg : w0.heap.size <= g) (hR : Row g w R) (hS : R.length = S) (hfin : fin <= S) (hS2 : S <= 4611686018427387904) (hbody : bs.length < 16777216) (hfit : (enc (.mk false bs [])).length <= fin) :
  Calls Tryz.prog 71 #[.slice (some ⟨g, 0, none⟩) S S, .int .i64 fin, .agg #[.bool x.l, .slice x.ba x.bn x.bc, .slice x.ia x.m x.ic]] w fun e w' => e = .returned (.int .i64 (fin - (enc (.mk false bs [])).length : Nat)) /\ Row g w' (R.take (fin - (enc (.mk false bs [])).length) ++ enc (.mk false bs []) ++ R.drop fin) /\ Touch g w w' := by
 obtain ⟨l', ba, bn, bc, ia, m, ic⟩ := x
 obtain ⟨h1, h2, h3, h4, h5, ⟨h7, h8⟩, h6⟩ := lies_eq.1 hli
 simp only at h1 h2 h3 h4 h5 h6 h7 h8 ⊢
 subst h1
 simp only [List.length_nil] at h3
 have hl := h2.l
 have hgl := lt_of_get hR
 have hA := h2.at hbel
 have hlen : bs.length <= (enc (.mk false bs [])).length := by rw [Zpc]; split <;> simp
 obtain ⟨a, ha⟩ : ∃ a, fin = a + bn := ⟨fin - bn, by omega⟩
 subst ha
 have hR1 : Row g (w.alloc (.cells #[.bool false, .slice ba bn bc, .slice ia m ic] 94)).drew R := (Below.heap_alloc _ _ _ hgl).trans hR
 have hbw : Below w.heap.size w (w.alloc (.cells #[.bool false, .slice ba bn bc, .slice ia m ic] 94)).drew := ((Below.refl _ _).alloc (Nat.le_refl _) _).drew
 obtain ⟨w1, hrun, hrow, ht⟩ := Zlb (o := a) (dl := ((a : Int) + bn).toNat - a) (dc := S - a) (da := if S = a then some ⟨g, 0, none⟩ else some ⟨g, a, none⟩) hR1 (hA.at hbw) (by omega) (by omega) (fun h => if_neg (by omega))
 have hA1 : Ag w1 ba bn bc bs := h2.at (Touch.below (hbel.alloc hbel.size _).drew ht hg (by have := hbel.size; simp; omega))
 have hx : w1.heap[w.heap.size]? = some (.cells #[.bool false, .slice ba bn bc, .slice ia m ic] 94) := (ht.block _ (by simp) (by omega)).trans (heap_alloc_new _ _)
 have y0 : w1.cell? ⟨w.heap.size, 0, none⟩ = some (.bool false) := by rw [cell_of_row _ _ _ _ _ _ hx]; rfl
 have y1 : w1.cell? ⟨w.heap.size, 1, none⟩ = some (.slice ba bn bc) := by rw [cell_of_row _ _ _ _ _ _ hx]; rfl
 have y2 : w1.cell? ⟨w.heap.size, 2, none⟩ = some (.slice ia m ic) := by rw [cell_of_row _ _ _ _ _ _ hx]; rfl
 have hT : Touch g w w1 := (Touch.of_below hbw).trans ht
 have HRUN := Hid.mk hrun
 have hab : (a : Int) <= (a : Int) + bn := by omega
 have hbnS : (a : Int) + bn <= S := by omega
 obtain ⟨en, hen⟩ : ∃ en, enc (.mk false bs []) = en := ⟨_, rfl⟩
 rw [hen] at hfit ⊢
 rw [Zpc] at hen
 have HEN := Hid.mk hen
 have HROW := Hid.mk hrow
 have HA1 := Hid.mk hA1
 have HT := Hid.mk hT
 have HX := Hid.mk hx
 have HL := Hid.mk hl
 clear hrun hrow ht hA1 hx hT hR1 hbw hA hli h2 h3 h6 hR hen hl hlen
 go_enter Tryz.func71, Tryz.ntmps71
 go_wp2_with fail
 go_cut [0] (fun o v => o = .slice (some ⟨g, 0, none⟩) S S /\ v = w1)
 case first =>
  go_region_law (refine step_copy rfl _ _ _ _ rfl _ _ rfl rfl (HRUN.out _) ?_)
  all_goals
   go_wp2_with fail
   all_goals
    go_meet
    case rel => exact ⟨by simp [*], rfl⟩
 case rest =>
 obtain ⟨rfl, rfl⟩ := hcut
 go_wp2_with fail
 refine (Zpn false ba bn bc ia m ic bs _ HA1.out).mono ?_
 rintro e w2 ⟨rfl, hb2⟩
 have hT2 : Touch g w w2 := HT.out.trans (Touch.of_below hb2)
 have hrow2 : Row g w2 (R.take a ++ bs ++ R.drop (a + bn)) := Below.row hb2 HROW.out
 have hx2 := Below.row hb2 HX.out
 by_cases hbr : bare false bs = true
 ·have e1 := HEN.out
  rw [if_pos hbr] at e1
  subst e1
  rw [hbr]
  have HR2 := Hid.mk hrow2
  have HT2 := Hid.mk hT2
  clear hrow2 hT2 hx2 y0 y1 y2
  go_wp2_with fail
  go_ret
  rw [HL.out, show a + bn - bn = a from by omega]
  exact ⟨rfl, HR2.out, HT2.out⟩
 ·have e1 := HEN.out
  rw [if_neg hbr] at e1
  have hbr2 : bare false bs = false := by simpa using hbr
  rw [hbr2]
  have hle : en.length = (hd 128 bn).length + bn := by rw [<- e1, List.length_append, HL.out]
  have hRl : (R.take a ++ bs ++ R.drop (a + bn)).length = S := by simp [HL.out]; omega
  have y0 : w2.cell? ⟨w.heap.size, 0, none⟩ = some (.bool false) := by rw [cell_of_row _ _ _ _ _ _ hx2]; rfl
  have y1 : w2.cell? ⟨w.heap.size, 1, none⟩ = some (.slice ba bn bc) := by rw [cell_of_row _ _ _ _ _ _ hx2]; rfl
  have hcal := Zie g a S bn 128 (R.take a ++ bs ++ R.drop (a + bn)) w2 hrow2 hRl (by omega) hS2 (by rw [HL.out] at hbody; exact hbody) (.inl rfl) (by omega)
  rw [show ((128 : Nat) : Int) = 128 from rfl] at hcal
  have HCAL := Hid.mk hcal
  have HT2 := Hid.mk hT2
  have HE1 := Hid.mk e1
  have HLE := Hid.mk hle
  clear hcal hRl hx2 hrow2 hT2 e1 hle
  go_wp2_with fail
  refine HCAL.out.mono ?_
  rintro e w3 ⟨rfl, hr3, ht3⟩
  have hle := HLE.out
  have e1 := HE1.out
  have hta : (R.take a).length = a := by rw [List.length_take]; omega
  obtain ⟨h, hh⟩ : ∃ h, (hd 128 bn).length = h := ⟨_, rfl⟩
  rw [hh] at hr3 hle ⊢
  have hfinal : List.take (a - h) (R.take a ++ bs ++ R.drop (a + bn)) ++ hd 128 bn ++ List.drop a (R.take a ++ bs ++ R.drop (a + bn)) = R.take (a + bn - en.length) ++ en ++ R.drop (a + bn) := by
   rw [<- e1, HL.out, List.length_append, hh, HL.out, show a + bn - (h + bn) = a - h from by omega, List.append_assoc (R.take a), List.take_append_of_le_length (by omega), List.take_take, Nat.min_eq_left (by omega), List.drop_append_of_le_length (by omega), List.drop_take_self]
   simp
  rw [hfinal] at hr3
  have hret : a - h = a + bn - en.length := by omega
  rw [hret]
  have HR3 := Hid.mk hr3
  have HT3 := Hid.mk (HT2.out.trans ht3)
  clear hr3 ht3 hfinal hret hle e1 hta hh
  go_wp2_with fail
  go_ret
  exact ⟨rfl, HR3.out, HT3.out⟩
theorem Zvj {its : List T} : enc (.mk true [] its) = hd 192 (encs its).length ++ encs its := by rw [Zcl, List.nil_append, if_neg (by simp [bare])]; rfl
theorem Zhn {its : List T} {j : Nat} {u : T} (h : its[j]? = some u) : encs (its.drop j) = enc u ++ encs (its.drop (j + 1)) := by
 obtain ⟨hj, e⟩ := List.getElem?_eq_some_iff.1 h
 rw [List.drop_eq_getElem_cons hj, Za7, e]
theorem Zj4 (its : List T) (j : Nat) : encs its = encs (its.take j) ++ encs (its.drop j) := by rw [<- Zcq, List.take_append_drop]
def PutSaid (t : T) : Prop := ∀ (x : V) (g S fin : Nat) (R : List Int) (w0 w : World), Lies w0 t x -> Below w0.heap.size w0 w -> w0.heap.size <= g -> Row g w R -> R.length = S -> fin <= S -> S <= 4611686018427387904 -> (bodyOf t).length < 16777216 -> (enc t).length <= fin →
  Calls Tryz.prog 71 #[.slice (some ⟨g, 0, none⟩) S S, .int .i64 fin, .agg #[.bool x.l, .slice x.ba x.bn x.bc, .slice x.ia x.m x.ic]] w fun e w' => e = .returned (.int .i64 (fin - (enc t).length : Nat)) /\ Row g w' (R.take (fin - (enc t).length) ++ enc t ++ R.drop fin) /\ Touch g w w'
theorem Zyq {its : List T} {j : Nat} {u : T} (h : its[j]? = some u) : (enc u).length + (encs (its.drop (j + 1))).length <= (encs its).length := by
 have := congrArg List.length (Zj4 its j)
 rw [Zhn h] at this
 simp only [List.length_append] at this
 omega
theorem Zwu (t : T) : (bodyOf t).length <= (enc t).length := by
 cases t with
 | mk l bs its =>
  rw [Zcl]
  show (bs ++ encs its).length <= _
  split <;> simp
theorem Zrh (R E F : List Int) (a len fin : Nat) (ha : a <= R.length) (hl : E.length = len) (hla : len <= a) : List.take (a - len) (R.take a ++ F ++ R.drop fin) ++ E ++ List.drop a (R.take a ++ F ++ R.drop fin) = R.take (a - len) ++ (E ++ F) ++ R.drop fin := by
 have hta : (R.take a).length = a := by rw [List.length_take]; omega
 rw [List.append_assoc (R.take a), List.take_append_of_le_length (by omega), List.take_take, Nat.min_eq_left (by omega), List.drop_append_of_le_length (by omega), List.drop_take_self]
 simp
set_option maxHeartbeats 1000000 in
theorem Zu1 (its : List T) (ih : ∀ u ∈ its, form u = true -> PutSaid u) (hform : forms its = true) : PutSaid (.mk true [] its) := by
 intro x g S fin R w0 w hli hbel hg hR hS hfin hS2 hbody hfit
 obtain ⟨l', ba, bn, bc, ia, m, ic⟩ := x
 obtain ⟨h1, h2, h3, h4, h5, ⟨h7, h8⟩, h6⟩ := lies_eq.1 hli
 simp only at h1 h2 h3 h4 h5 h6 h7 h8 ⊢
 subst h1
 have hbody2 : (encs its).length < 16777216 := by simpa [bodyOf, T.bs, T.its] using hbody
 obtain ⟨en, hen⟩ : ∃ en, enc (.mk true [] its) = en := ⟨_, rfl⟩
 rw [hen] at hfit ⊢
 rw [Zvj] at hen
 have hle : en.length = (hd 192 (encs its).length).length + (encs its).length := by rw [<- hen, List.length_append]
 have hgl := lt_of_get hR
 have HR := Hid.mk hR
 have H3 := Hid.mk h3
 have H6 := Hid.mk h6
 have HI := Hid.mk ih
 have HF := Hid.mk (Zbl hform)
 have HEN := Hid.mk hen
 have HLE := Hid.mk hle
 have hic : ic <= 2 ^ 63 - 1 := h5
 clear hR h3 h6 ih hen hle hbody hli h2 hform
 go_enter Tryz.func71, Tryz.ntmps71
 go_wp2_with fail
 have hR1 : Row g (w.alloc (.cells #[.bool true, .slice ba bn bc, .slice ia m ic] 94)) R := (Below.heap_alloc _ _ _ hgl).trans HR.out
 have HR1 := Hid.mk hR1
 clear hR1
 go_loopw [8, 9] (fun p i v => ∃ k a : Nat, k <= m /\ p = .int .i64 a /\ i = .int .i64 ((k : Int) - 1) /\ a + (encs (its.drop k)).length = fin /\ Row g v (R.take a ++ encs (its.drop k) ++ R.drop fin) /\ Touch g (w.alloc (.cells #[.bool true, .slice ba bn bc, .slice ia m ic] 94)) v) (fun _ i _ => (intOf i + 1).toNat)
 case atStart => exact ⟨m, fin, Nat.le_refl _, rfl, rfl, by rw [List.drop_of_length_le (by have := H3.out; omega), Za2]; rfl, by rw [List.drop_of_length_le (by have := H3.out; omega), Za2, List.append_nil, List.take_append_drop]; exact HR1.out, Touch.refl _ _⟩
 case round =>
  obtain ⟨k, a, hk, rfl, rfl, ha, hrow, ht⟩ := hrel
  have hx : wr.heap[w.heap.size]? = some (.cells #[.bool true, .slice ba bn bc, .slice ia m ic] 94) := (ht.block _ (by simp) (by omega)).trans (heap_alloc_new _ _)
  have y0 : wr.cell? ⟨w.heap.size, 0, none⟩ = some (.bool true) := by rw [cell_of_row _ _ _ _ _ _ hx]; rfl
  have y1 : wr.cell? ⟨w.heap.size, 1, none⟩ = some (.slice ba bn bc) := by rw [cell_of_row _ _ _ _ _ _ hx]; rfl
  have y2 : wr.cell? ⟨w.heap.size, 2, none⟩ = some (.slice ia m ic) := by rw [cell_of_row _ _ _ _ _ _ hx]; rfl
  clear hx
  cases k with
  | succ j =>
   have hj : j < its.length := by have := H3.out; omega
   obtain ⟨u, hu⟩ : ∃ u, its[j]? = some u := ⟨_, List.getElem?_eq_getElem hj⟩
   have hmem : u ∈ its := List.mem_of_getElem? hu
   obtain ⟨gi, off, y, hat⟩ := Zb3 H6.out j u hu
   rw [Nat.zero_add] at hat
   have hb : Below w0.heap.size w0 wr := Touch.below (hbel.alloc hbel.size _) ht hg (by have := hbel.size; simp; omega)
   obtain ⟨rfl, a0, a1, a2, ali⟩ := hat
   have c0' := (hb.cell (p := ⟨gi, off + j * 3, none⟩) (block_lt_of_cell a0)).trans a0
   have c1' := (hb.cell (p := ⟨gi, off + j * 3 + 1, none⟩) (block_lt_of_cell a1)).trans a1
   have c2' := (hb.cell (p := ⟨gi, off + j * 3 + 2, none⟩) (block_lt_of_cell a2)).trans a2
   have hbl := Zyq hu
   have henc : (enc u).length <= a := by have := congrArg List.length (Zj4 its j); rw [Zhn hu] at this; simp only [List.length_append] at this; have := HLE.out; omega
   have haS : a <= R.length := by omega
   have hRl : (R.take a ++ encs (its.drop (j + 1)) ++ R.drop fin).length = S := by simp; omega
   have hcal := HI.out u hmem (HF.out u hmem) y g S a _ w0 wr ali hb hg hrow hRl (by omega) hS2 (by have := Zwu u; omega) henc
   rw [Zrh R (enc u) _ a _ fin haS rfl henc, <- Zhn hu] at hcal
   have hdl : a - (enc u).length + (encs (its.drop j)).length = fin := by rw [Zhn hu, List.length_append]; omega
   have HCAL := Hid.mk hcal
   have HDL := Hid.mk hdl
   have HT := Hid.mk ht
   rw [show (((j + 1 : Nat) : Int) - 1) = (j : Int) from by omega]
   have hj0 : (0 : Int) <= j := by omega
   have hjm : (j : Int) < m := by omega
   have hjm2 : j < m := by omega
   clear hcal hdl ht hrow a0 a1 a2 ali hb hbl hRl ha
   go_wp2_with fail
   refine HCAL.out.mono ?_
   rintro e w1 ⟨rfl, hr1, ht1⟩
   have HR2 := Hid.mk hr1
   have HT2 := Hid.mk (HT.out.trans ht1)
   clear hr1 ht1
   go_wp2_with fail
   refine ⟨⟨j, a - (enc u).length, by omega, rfl, rfl, HDL.out, HR2.out, HT2.out⟩, ?_⟩
   simp [intOf]
  | zero =>
   rw [List.drop_zero] at ha hrow
   have hle := HLE.out
   have hRl : (R.take a ++ encs its ++ R.drop fin).length = S := by simp; omega
   have hcal := Zie g a S (encs its).length 192 _ wr hrow hRl (by omega) hS2 hbody2 (.inr rfl) (by omega)
   rw [Zrh R _ _ a _ fin (by omega) rfl (by omega), HEN.out, show a - (hd 192 (encs its).length).length = fin - en.length from by omega] at hcal
   rw [show ((192 : Nat) : Int) = 192 from rfl] at hcal
   have hfa : fin = a + (encs its).length := ha.symm
   obtain ⟨nn, hnn⟩ : ∃ nn, (encs its).length = nn := ⟨_, rfl⟩
   rw [hnn] at hcal hfa hbody2
   have HCAL := Hid.mk hcal
   have HT := Hid.mk ht
   have HFA := Hid.mk hfa
   have hfi : (fin : Int) - a = nn := by omega
   have HFI := Hid.mk hfi
   clear hcal ht hrow hle ha hRl hnn hfa hfi
   rw [show (((0 : Nat) : Int) - 1) = -1 from rfl]
   have haf : (a : Int) <= fin := by have := HFA.out; omega
   have hff : fin < 9223372036854775807 := by omega
   go_wp2_with fail
   rw [HFI.out]
   refine HCAL.out.mono ?_
   rintro e w1 ⟨rfl, hr1, ht1⟩
   have HR2 := Hid.mk hr1
   have HT2 := Hid.mk ((Touch.of_below ((Below.refl _ _).alloc (Nat.le_refl _) _)).trans (HT.out.trans ht1))
   clear hr1 ht1
   go_wp2_with fail
   go_ret
   exact ⟨rfl, HR2.out, HT2.out⟩
theorem Zxn : ∀ t, form t = true -> PutSaid t := by
 refine T.ind fun l bs its ih h => ?_
 cases l with
 | false =>
  have := Zb8 h
  subst this
  intro x g S fin R w0 w hli hbel hg hR hS hfin hS2 hbody hfit
  exact Zu0 bs x g S fin R w0 w hli hbel hg hR hS hfin hS2 (by simpa [bodyOf, T.bs, T.its, Za2] using hbody) hfit
 | true =>
  obtain ⟨h1, h2⟩ := Zct h
  subst h1
  exact Zu1 its ih h2
def encP (t : T) : List Int × Nat := if (mP t).2 = 0 then (enc t, 0) else ([], (mP t).2)
theorem Zzm {t : T} (h : (mP t).2 = 0) : (wk t 0 0).2 = 0 /\ szb t <= 16777215 /\ (mP t).1 = sz t := by
 unfold mP at *
 by_cases h1 : (wk t 0 0).2 = 0
 ·rw [if_neg (by rw [h1]; simp)] at h ⊢
  by_cases h2 : 16777215 < szb t
  ·rw [if_pos h2] at h; cases h
  ·rw [if_neg h2]; exact ⟨h1, by omega, rfl⟩
 ·rw [if_pos h1] at h; exact absurd h h1
theorem Zmv (n : Nat) : ∀ x ∈ be n, 0 <= x /\ x < 256 := by
 induction n using Nat.strongRecOn with
 | _ n ih =>
  by_cases h : n = 0
  ·subst h; rw [Zel]; intro x hx; cases hx
  ·rw [Zem (by omega)]
   intro x hx
   rcases List.mem_append.1 hx with hx | hx
   ·exact ih _ (Nat.div_lt_self (by omega) (by decide)) x hx
   ·simp at hx; omega
theorem Zs2 {l : Bool} {n : Nat} (hn : n < 16777216) : ∀ x ∈ hd (baseOf l) n, 0 <= x /\ x < 256 := by
 have hb : baseOf l <= 192 := by cases l <;> decide
 intro x hx
 unfold hd at hx
 split at hx
 ·simp at hx; omega
 ·rcases List.mem_cons.1 hx with rfl | hx
  ·have := Zfs hn; omega
  ·exact Zmv n x hx
theorem Znr {its : List T} (ih : ∀ t ∈ its, byt t -> (bodyOf t).length < 16777216 -> ∀ x ∈ enc t, 0 <= x /\ x < 256) : byts its -> (encs its).length < 16777216 -> ∀ x ∈ encs its, 0 <= x /\ x < 256 := by
 induction its with
 | nil => intro _ _ x hx; rw [Za2] at hx; cases hx
 | cons t r ihr =>
  intro hb hl x hx
  obtain ⟨h1, h2⟩ := (Zmq t r).1 hb
  rw [Za7] at hx hl
  rw [List.length_append] at hl
  rcases List.mem_append.1 hx with hx | hx
  ·exact ih t (List.mem_cons_self ..) h1 (by have := Zwu t; omega) x hx
  ·exact ihr (fun u hu => ih u (List.mem_cons_of_mem _ hu)) h2 (by omega) x hx
theorem Zqo : ∀ t, byt t -> (bodyOf t).length < 16777216 -> ∀ x ∈ enc t, 0 <= x /\ x < 256 := by
 refine T.ind fun l bs its ih hb hl x hx => ?_
 obtain ⟨h1, h2⟩ := (Zwz l bs its).1 hb
 have hl2 : (bs ++ encs its).length < 16777216 := hl
 have hbody : ∀ x ∈ bs ++ encs its, 0 <= x /\ x < 256 := Znm h1 (Znr ih h2 (by rw [List.length_append] at hl2; omega))
 rw [Zcl] at hx
 split at hx
 ·exact hbody x hx
 ·rcases List.mem_append.1 hx with hx | hx
  ·exact Zs2 hl2 x hx
  ·exact hbody x hx
theorem Zi1 {t : T} (h : (mP t).2 = 0) : (mP t).1 = (enc t).length /\ (bodyOf t).length < 16777216 /\ form t = true := by
 obtain ⟨h1, h2, h3⟩ := Zzm h
 have hf := Zhw t 0 0 h1
 rw [h3, Zv4 t hf, <- Zh0 hf]
 exact ⟨rfl, by omega, hf⟩
theorem Zj6 {t : T} (hb : (bodyOf t).length < 16777216) : (enc t).length <= 16777220 := by
 obtain ⟨l, bs, its⟩ := t
 have hb2 : (bs ++ encs its).length < 16777216 := hb
 rw [Zcl]
 split
 ·omega
 ·rw [List.length_append, hd_len]
  have := Zfs hb2
  split <;> omega
theorem made_bytes (n : Nat) : madeCells #[Value.int .u8 0] n = ((List.replicate n (0 : Int)).map (Value.int .u8)).toArray := by
 apply Array.ext'
 rw [toList_madeCells_one]
 simp
theorem row_ag {w : World} {g n : Nat} {bs : List Int} (h : Row g w bs) (hl : bs.length = n) (hb : ∀ x ∈ bs, 0 <= x /\ x < 256) (hn : n <= 9223372036854775807) : Ag w (some ⟨g, 0, none⟩) n n bs := by
 refine ⟨?_, (fun h => by cases h), hl, hb⟩
 by_cases h0 : n = 0
 ·exact .inl ⟨h0, List.eq_nil_of_length_eq_zero (by omega)⟩
 ·exact .inr ⟨g, 0, rfl, hl, by omega, Nat.le_refl _, by unfold maxLen; omega, fun j hj => by rw [Nat.zero_add]; exact h.cell hj⟩
theorem info5b : (Tryz.prog.info? 5).map (fun i => (i.zero, i.size, i.bytes)) = some (some (.int .u8 0), 1, 1) := by kernel_rfl
end Go.Proofs.YtdkpilgelgjieaaGreat
namespace Go.Proofs.YtdkpilgelgjieaaGreat
theorem Zup {P : List Int -> Prop} (h0 : P []) (h1 : ∀ r x, P r -> P (r ++ [x])) (l : List Int) : P l := by
 have : ∀ m : List Int, P m.reverse := by
  intro m
  induction m with
  | nil => exact h0
  | cons x r ih => rw [List.reverse_cons]; exact h1 _ _ ih
 have := this l.reverse
 rwa [List.reverse_reverse] at this
theorem Zz9 (s : List Int) : (∀ x ∈ s, 0 <= x /\ x < 256) -> s.headD 0 ≠ 0 -> be (val s) = s := by
 induction s using Zup with
 | h0 => intro _ h; exact absurd rfl h
 | h1 r x ih =>
  intro h hh
  have hx := h x (by simp)
  rw [Zg5]
  cases r with
  | nil =>
   have hx2 : x ≠ 0 := hh
   rw [show val ([] : List Int) = 0 from rfl, Zem (by omega), show (0 * 256 + x.toNat) / 256 = 0 from by omega, Zel]
   simp; omega
  | cons y r =>
   have h1 := ih (fun z hz => h z (List.mem_append_left _ hz)) hh
   have h2 : 0 < val (y :: r) := by
    rcases Nat.eq_zero_or_pos (val (y :: r)) with h0 | h0
    ·rw [h0, Zel] at h1; cases h1
    ·exact h0
   rw [Zem (by omega), show (val (y :: r) * 256 + x.toNat) / 256 = val (y :: r) from by omega, h1, show (((val (y :: r) * 256 + x.toNat) % 256 : Nat) : Int) = x from by omega]
theorem Zsz {deep : Bool} {b : List Int} {f t : Nat} (hb : ∀ x ∈ b, 0 <= x /\ x < 256) (h : hdr deep b = .ok f t) :
  (b.headD 0 < 128 /\ f = 0 /\ t = 1 /\ 0 < b.length) \/ (128 <= b.headD 0 /\ 1 <= f /\ f <= t /\ t <= b.length /\ t - f <= 16777215 /\ b.take f = hd (if 192 <= b.headD 0 then 192 else 128) (t - f) /\ (192 <= b.headD 0 -> deep = false) /\ (f = 1 ↔ t - f <= 55)) := by
 have hok := Zmh h
 unfold hdr at h
 split at h
 ·cases h
 ·rename_i c r
  have hc := hb c (by simp)
  split at h
  ·cases h
  ·rename_i hdeep
   have hd2 : 192 <= c -> deep = false := fun h1 => by
    cases deep with
    | false => rfl
    | true => exact absurd ⟨h1, rfl⟩ hdeep
   split at h
   ·rename_i h1
    cases h
    exact .inl ⟨h1, rfl, rfl, by simp⟩
   ·rename_i h1
    have hbase : (if 192 <= c then 192 else 128 : Nat) + nOf c = c.toNat := by
     unfold nOf
     split <;> omega
    have hn63 : nOf c <= 63 := by
     unfold nOf
     split <;> omega
    right
    show 128 <= c /\ _
    refine ⟨by omega, ?_⟩
    show 1 <= f /\ f <= t /\ t <= (c :: r).length /\ t - f <= 16777215 /\ (c :: r).take f = hd (if 192 <= c then 192 else 128) (t - f) /\ (192 <= c -> deep = false) /\ _
    split at h
    ·rename_i h55
     split at h
     ·cases h
     ·rename_i h4
      obtain ⟨l1, l2, l3, l4, l5⟩ := Zfw (Decidable.not_not.1 h4)
      split at h
      ·cases h
      ·cases h
       rw [l5] at *
       have hk1 : 1 <= nOf c - 55 := by omega
       have hlt := Zby (b := r) (fun x hx => hb x (List.mem_cons_of_mem _ hx)) (j := nOf c - 55) l2 l1
       have hhead : (r.take (nOf c - 55)).headD 0 ≠ 0 := by
        cases r with
        | nil => simp at l2; omega
        | cons y r =>
         obtain ⟨k, hk⟩ : ∃ k, nOf c - 55 = k + 1 := ⟨nOf c - 55 - 1, by omega⟩
         rw [hk]
         exact l3
       have hbe := Zz9 (r.take (nOf c - 55)) (fun x hx => hb x (List.mem_cons_of_mem _ (List.mem_of_mem_take hx))) hhead
       have hnb : nb (val (r.take (nOf c - 55))) = nOf c - 55 := by
        rw [<- Zkc, hbe, List.length_take]; omega
       refine ⟨by omega, by omega, by omega, by omega, ?_, hd2, by constructor <;> intro _ <;> omega⟩
       rw [show 1 + (nOf c - 55) + val (r.take (nOf c - 55)) - (1 + (nOf c - 55)) = val (r.take (nOf c - 55)) from by omega]
       unfold hd
       rw [if_neg (by omega), hnb, hbe, show 1 + (nOf c - 55) = (nOf c - 55) + 1 from by omega, List.take_succ_cons]
       congr 1
       omega
    ·rename_i h55
     split at h
     ·cases h
     ·cases h
      refine ⟨by omega, by omega, by omega, by omega, ?_, hd2, by constructor <;> intro _ <;> omega⟩
      rw [show 1 + nOf c - 1 = nOf c from by omega]
      unfold hd
      rw [if_pos (by omega)]
      show [c] = _
      congr 1
      omega
def Good (d : Nat) (b : List Int) (t : T) (n : Nat) : Prop :=
 enc t = b.take n /\ form t = true /\ ∀ w, w + n <= 16777215 -> (wk t d w).2 = 0 /\ (wk t d w).1 <= w + n
theorem Zjs {d : Nat} {g : List Int -> R} (hg : ∀ b t n, (∀ x ∈ b, 0 <= x /\ x < 256) -> g b = .ok t n -> Good d b t n /\ 1 <= n /\ n <= b.length) :
  ∀ (n : Nat) (b : List Int) (ts : List T), (∀ x ∈ b, 0 <= x /\ x < 256) -> rdAll g n b = .ok ts -> encs ts = b /\ forms ts = true /\ ∀ w, w + b.length <= 16777215 -> (wks ts d w).2 = 0 /\ (wks ts d w).1 <= w + b.length
 | n, [], ts, hb, h => by
  rw [Zc4] at h
  cases h
  exact ⟨Za2, Zck, fun w hw => by rw [Zch]; exact ⟨rfl, by simp⟩⟩
 | 0, x :: b, ts, hb, h => by cases h
 | n + 1, x :: b, ts, hb, h => by
  cases hx : g (x :: b) with
  | bad e => rw [Zdp (by simp) hx] at h; cases h
  | ok t m =>
   rw [Zeq (by simp) hx] at h
   obtain ⟨⟨g1, g2, g3⟩, m1, m2⟩ := hg _ _ _ hb hx
   cases hr : rdAll g n ((x :: b).drop m) with
   | bad e => rw [hr] at h; cases h
   | ok us =>
    rw [hr] at h
    cases h
    obtain ⟨r1, r2, r3⟩ := Zjs hg n _ us (fun y hy => hb y (List.mem_of_mem_drop hy)) hr
    refine ⟨by rw [Za7, g1, r1, List.take_append_drop], by rw [Zgh, g2, r2]; rfl, fun w hw => ?_⟩
    have e := List.length_drop (i := m) (l := x :: b)
    obtain ⟨a1, a2⟩ := g3 w (by omega)
    rw [Zc9, if_pos a1]
    obtain ⟨b1, b2⟩ := r3 _ (show (wk t d w).1 + ((x :: b).drop m).length <= 16777215 by omega)
    exact ⟨b1, by omega⟩
theorem Zwx {b : List Int} {f t : Nat} (h : f <= t) : b.take t = b.take f ++ (b.take t).drop f := by
 conv => lhs; rw [<- List.take_append_drop f (b.take t)]
 rw [List.take_take, Nat.min_eq_left h]
theorem Zw3 {l : Bool} {bs : List Int} {d n : Nat} (h : bs.length <= n) (h1 : 1 <= n) : wt l bs d <= n := by
 unfold wt
 split <;> omega
theorem Zoi {d : Nat} {g : List Int -> R} {deep : Bool} (hdd : deep = false -> d < 8) (hg : ∀ b t n, (∀ x ∈ b, 0 <= x /\ x < 256) -> g b = .ok t n -> Good (d + 1) b t n /\ 1 <= n /\ n <= b.length) {b : List Int} {t : T} {n : Nat} (hb : ∀ x ∈ b, 0 <= x /\ x < 256) (h : rd1 g deep b = .ok t n) :
  Good d b t n /\ (bodyOf t).length <= 16777215 /\ ((wk t 0 0).2 = 0 \/ d ≠ 0) := by
 have hn := Zxl h
 unfold rd1 at h
 split at h
 ·cases h
 ·rename_i f t' hh
  have hp := Zsz hb hh
  have hok := Zmh hh
  have hlb : ((b.take t').drop f).length = t' - f := by rw [List.length_drop, List.length_take]; omega
  split at h
  ·rename_i h192
   split at h
   ·cases h
   ·rename_i hno
    cases h
    have hwk : ∀ d' w, w + wt false ((b.take n).drop f) d' <= 16777215 -> wk (.mk false ((b.take n).drop f) []) d' w = (w + wt false ((b.take n).drop f) d', 0) := by
     intro d' w hw
     rw [Zkj, if_neg (by simp), if_neg (by simp [wrongForm]), if_neg (by omega), Zch]
    have hwt : ∀ d', wt false ((b.take n).drop f) d' <= n := fun d' => Zw3 (by omega) hn.1
    have hlen : ((b.take n).drop f).length <= 16777215 := by
     rw [hlb]
     rcases hp with ⟨_, rfl, rfl, _⟩ | ⟨_, _, _, _, h5, _⟩
     ·omega
     ·exact h5
    refine ⟨⟨?_, ?_, ?_⟩, ?_, ?_⟩
    ·rw [Zcl, Za2, List.append_nil]
     rcases hp with ⟨h1, rfl, rfl, h4⟩ | ⟨h1, h2, h3, h4, h5, h6, h7, h8⟩
     ·cases b with
      | nil => simp at h4
      | cons c r =>
       have h1' : c < 128 := h1
       rw [if_pos (by simp [bare, h1'])]
       simp
     ·have hnb : bare false ((b.take n).drop f) = false := by
       unfold bare
       by_cases hl1 : ((b.take n).drop f).length = 1
       ·rw [hlb] at hl1
        have hf1 : f = 1 := h8.2 (by omega)
        subst hf1
        have hn2 : n = 2 := by omega
        subst hn2
        have hge : ¬ b.getD 1 0 < 128 := fun hlt => hno ⟨rfl, rfl, hlt⟩
        have hhd : ((b.take 2).drop 1).headD 0 = b.getD 1 0 := by
         cases b with
         | nil => rfl
         | cons c r => cases r <;> rfl
        rw [hhd, decide_eq_false hge]
        simp
       ·rw [decide_eq_false hl1]
        rfl
      rw [hnb, if_neg (by simp), hlb, baseOf, if_neg (by simp)]
      rw [if_neg (by omega)] at h6
      rw [<- h6, <- Zwx h3]
    ·rw [Zeh, Zck]; simp
    ·intro w hw
     have := hwt d
     rw [hwk d w (by omega)]
     exact ⟨rfl, by show w + _ <= _; omega⟩
    ·show ((b.take n).drop f ++ encs []).length <= 16777215
     rw [Za2, List.append_nil]; exact hlen
    ·left
     have : wt false ((b.take n).drop f) 0 <= 16777215 := Zw3 hlen (by omega)
     rw [hwk 0 0 (by omega)]
  ·rename_i h192
   split at h
   ·cases h
   ·rename_i ts hts
    cases h
    rcases hp with ⟨h1, _⟩ | ⟨h1, h2, h3, h4, h5, h6, h7, h8⟩
    ·exact absurd h1 (by omega)
    ·have h192' : 192 <= b.headD 0 := by omega
     have hdp := hdd (h7 h192')
     obtain ⟨r1, r2, r3⟩ := Zjs hg _ _ ts (fun y hy => hb y (List.mem_of_mem_take (List.mem_of_mem_drop hy))) hts
     have hbody : (encs ts).length = n - f := by rw [r1, hlb]
     have hwk : ∀ d' w, d' < 8 -> w + wt true [] d' <= 16777215 -> wk (.mk true [] ts) d' w = wks ts (d' + 1) (w + wt true [] d') := by
      intro d' w hd' hw
      rw [Zkj, if_neg (by simp; omega), if_neg (by simp [wrongForm]), if_neg (by omega)]
     rw [hlb] at r3
     refine ⟨⟨?_, ?_, ?_⟩, ?_, ?_⟩
     ·rw [Zcl, List.nil_append, if_neg (by simp [bare]), hbody, baseOf, if_pos rfl]
      rw [if_pos h192'] at h6
      rw [<- h6, r1, <- Zwx h3]
     ·rw [Zeh, r2]; rfl
     ·intro w hw
      have hw1 : wt true [] d <= 1 := Zw3 (by simp) (by omega)
      rw [hwk d w hdp (by omega)]
      obtain ⟨a1, a2⟩ := r3 (w + wt true [] d) (by omega)
      exact ⟨a1, by omega⟩
     ·show (([] : List Int) ++ encs ts).length <= 16777215
      rw [List.nil_append, hbody]; exact h5
     ·by_cases hd0 : d = 0
      ·subst hd0
       left
       have hw0 : wt true [] 0 = 0 := rfl
       rw [hwk 0 0 (by omega) (by omega), hw0]
       exact (r3 0 (by omega)).1
      ·exact .inr hd0
theorem Zrv : ∀ k d, d + k = 8 -> ∀ b t n, (∀ x ∈ b, 0 <= x /\ x < 256) -> rd k b = .ok t n -> Good d b t n /\ (bodyOf t).length <= 16777215 /\ ((wk t 0 0).2 = 0 \/ d ≠ 0)
 | 0, d, hd, b, t, n, hb, h => Zoi (deep := true) (fun h => by cases h) (fun b t n _ h => by cases h) hb h
 | k + 1, d, hd, b, t, n, hb, h => Zoi (g := rd k) (deep := false) (fun _ => by omega) (fun b t n hb h => ⟨(Zrv k (d + 1) (by omega) b t n hb h).1, rd_n h⟩) hb h
theorem Zyh {b : List Int} {t : T} (hb : ∀ x ∈ b, 0 <= x /\ x < 256) (h : rd 8 b = .ok t b.length) : encP t = (b, 0) /\ (mP t).2 = 0 := by
 obtain ⟨⟨g1, g2, _⟩, g3, g4⟩ := Zrv 8 0 rfl b t b.length hb h
 have hw : (wk t 0 0).2 = 0 := g4.resolve_right (fun h => h rfl)
 have hm : (mP t).2 = 0 := by
  unfold mP
  rw [if_neg (by rw [hw]; simp), if_neg (by rw [Zh0 g2]; omega)]
 rw [List.take_length] at g1
 exact ⟨by unfold encP; rw [if_pos hm, g1], hm⟩
end Go.Proofs.YtdkpilgelgjieaaGreat
namespace Go.Proofs.YtdkpilgelgjieaaGreat
open Go.RowKit
set_option maxHeartbeats 1000000 in
theorem Zgv (a : Option Addr) (n c k : Nat) (b : List Int) (w : World) (h : Ag w a n c b) (hk : 1 <= k) (hk8 : k <= 8) (hn : n <= 4611686018427387904) :
  Calls Tryz.prog 130 #[.slice a n c, .int .i64 k] w fun e w' => e = .returned (.tuple #[.int .i64 ((lenIn b k).1 : Nat), .int .i64 ((lenIn b k).2 : Nat)]) /\ Below w.heap.size w w' := by
 have hl := h.l
 obtain ⟨r, hr⟩ : ∃ r, lenIn b k = r := ⟨_, rfl⟩
 rw [hr]
 unfold lenIn at hr
 by_cases h3 : 3 < k
 ·rw [if_pos h3] at hr
  subst hr
  have h3i : (3 : Int) < k := by omega
  clear h
  go_enter Tryz.func130, Tryz.ntmps130
  go_wp2_with fail
  go_ret2
  exact ⟨rfl, Below.refl _ _⟩
 rw [if_neg h3] at hr
 have h3i : ¬ (3 : Int) < k := by omega
 by_cases h4 : b.length < k
 ·rw [if_pos h4] at hr
  subst hr
  have h4i : (n : Int) < k := by omega
  clear h
  go_enter Tryz.func130, Tryz.ntmps130
  go_wp2_with fail
  go_ret2
  exact ⟨rfl, Below.refl _ _⟩
 rw [if_neg h4] at hr
 have h4i : ¬ (n : Int) < k := by omega
 obtain ⟨g, off, rfl, hc1, hc2, hc⟩ := ag_head h (by omega)
 unfold maxLen at hc2
 have HR := Hid.mk hr
 have HC := Hid.mk hc
 have HB := Hid.mk h.b
 have HL := Hid.mk hl
 have hc0 := hc 0 (by omega)
 rw [Nat.add_zero] at hc0
 have hkc : k <= c := by omega
 clear h hr hc hl h4
 go_enter Tryz.func130, Tryz.ntmps130
 go_wp2_with fail
 go_loopw [6, 19] (fun q i v => ∃ j : Nat, j <= k /\ i = .int .i64 j /\ q = .int .i64 (val (b.take j) : Nat) /\ v = w) (fun _ i _ => k - (intOf i).toNat)
 case atStart => exact ⟨0, by omega, rfl, rfl, rfl⟩
 case round =>
  obtain ⟨j, hj, rfl, rfl, rfl⟩ := hrel
  by_cases hlt : j < k
  ·have hcell := HC.out j (by omega)
   have hb2 := HB.out
   have hl := HL.out
   obtain ⟨v1, v2⟩ := Zby hb2 (j := j) (by omega) (by omega)
   have v3 := Zby hb2 (j := j + 1) (by omega) (by omega)
   have hx := hb2 (b.getD j 0) (by rw [List.getD, List.getElem?_eq_getElem (by omega)]; exact List.getElem_mem _)
   have hvs := Zkl (b := b) (j := j) (by omega)
   obtain ⟨q, hq⟩ : ∃ q, val (b.take j) = q := ⟨_, rfl⟩
   obtain ⟨x, hxx⟩ : ∃ x, b.getD j 0 = x := ⟨_, rfl⟩
   rw [hq] at v1 hvs ⊢
   rw [hxx] at hcell hx hvs
   obtain ⟨hx0, hx1⟩ := hx
   rw [hvs] at v3
   have hq2 : q < 65536 := by omega
   have HV := Hid.mk hvs
   have hji : (j : Int) < k := by omega
   have hor : bits BinOp.or IntKind.i64 ((q : Int) * 256) x = (q : Int) * 256 + x := by
    refine bits_join .i64 40 (by decide) (fun n a b => by rw [IntKind.wrap_i64]; omega) 8 _ _ (by omega) (by omega) (by omega) hx0 (by omega) (by omega)
   clear hvs hb2 hl v1 v2 v3 hq hxx
   go_wp2_with fail
   refine ⟨⟨j + 1, by omega, by simp, ?_, trivial⟩, ?_⟩
   ·rw [HV.out]
    simp
    omega
   ·simp [intOf]; omega
  ·have hjk : j = k := by omega
   subst hjk
   have hji : ¬ (j : Int) < j := by omega
   obtain ⟨v1, v2⟩ := Zby HB.out (j := j) (by have := HL.out; omega) (by omega)
   have hh : b.headD 0 = b.getD 0 0 := by cases b <;> rfl
   have hr := HR.out
   rw [hh] at hr
   have hx := HB.out (b.getD 0 0) (by rw [List.getD, List.getElem?_eq_getElem (by have := HL.out; omega)]; exact List.getElem_mem _)
   obtain ⟨q, hq⟩ : ∃ q, val (b.take j) = q := ⟨_, rfl⟩
   obtain ⟨x, hxx⟩ : ∃ x, b.getD 0 0 = x := ⟨_, rfl⟩
   rw [hq] at v1 hr ⊢
   rw [hxx] at hc0 hr hx
   clear hq hxx hh
   by_cases hx0 : x = 0
   ·subst hx0
    rw [if_pos (.inl rfl)] at hr
    subst hr
    clear hx
    go_wp2_with fail
    go_ret2
    exact ⟨rfl, Below.refl _ _⟩
   ·have hxb : (x == 0) = false := by simp [hx0]
    by_cases hq5 : q <= 55
    ·rw [if_pos (.inr hq5)] at hr
     subst hr
     have hqi : (q : Int) <= 55 := by omega
     go_wp2_with fail
     go_ret2
     exact ⟨rfl, Below.refl _ _⟩
    ·rw [if_neg (by intro h; rcases h with h | h; exact hx0 h; exact hq5 h)] at hr
     subst hr
     have hqi : ¬ (q : Int) <= 55 := by omega
     go_wp2_with fail
     go_ret2
     exact ⟨rfl, Below.refl _ _⟩
end Go.Proofs.YtdkpilgelgjieaaGreat

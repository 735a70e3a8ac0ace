/- What the document's Same answers: are two items the same? -/
import Derived.Test.YtkbdkenpblcofabX0
namespace Go.Proofs.Ytkbdkenpblcofab
open Go.RowKit
set_option linter.unusedVariables false
noncomputable def teq (a b : T) : Bool := @decide (a = b) (Classical.propDecidable _)
theorem teq_true {a b : T} (h : a = b) : teq a b = true := @decide_eq_true _ (Classical.propDecidable _) h
theorem teq_false {a b : T} (h : ¬ a = b) : teq a b = false := @decide_eq_false _ (Classical.propDecidable _) h
theorem teq_iff {a b : T} : teq a b = true ↔ a = b := ⟨fun h => Classical.byContradiction (fun hn => by rw [teq_false hn] at h; exact Bool.noConfusion h), teq_true⟩
theorem teq_self (a : T) : teq a a = true := teq_true rfl
theorem str_beq2 {a b : List Int} (ha : ∀ x ∈ a, 0 ≤ x ∧ x < 256) (hb : ∀ x ∈ b, 0 ≤ x ∧ x < 256) : ((strOfNums a).toList == (strOfNums b).toList) = decide (a = b) := by
  by_cases h : a = b
  · simp [h]
  · have : ¬ (strOfNums a).toList = (strOfNums b).toList := fun e => h ((strOf_eq ha hb).1 e)
    simp [h, this]
/-- Two items in boxes. -/
structure Bx (w W : World) (x y : V) : Prop where
  a0 : W.cell? ⟨w.heap.size, 0, none⟩ = some (.bool x.l)
  a1 : W.cell? ⟨w.heap.size, 1, none⟩ = some (.slice x.ba x.bn x.bc)
  a2 : W.cell? ⟨w.heap.size, 2, none⟩ = some (.slice x.ia x.m x.ic)
  b0 : W.cell? ⟨w.heap.size + 1, 0, none⟩ = some (.bool y.l)
  b1 : W.cell? ⟨w.heap.size + 1, 1, none⟩ = some (.slice y.ba y.bn y.bc)
  b2 : W.cell? ⟨w.heap.size + 1, 2, none⟩ = some (.slice y.ia y.m y.ic)
  bel : Below w.heap.size w W
theorem bx_new (w : World) (x y : V) : Bx w ((w.alloc (.cells #[.bool x.l, .slice x.ba x.bn x.bc, .slice x.ia x.m x.ic] 25)).alloc (.cells #[.bool y.l, .slice y.ba y.bn y.bc, .slice y.ia y.m y.ic] 25)) x y := by
  obtain ⟨A, hA⟩ : ∃ A : Obj, Obj.cells #[.bool x.l, .slice x.ba x.bn x.bc, .slice x.ia x.m x.ic] 25 = A := ⟨_, rfl⟩
  obtain ⟨B, hB⟩ : ∃ B : Obj, Obj.cells #[.bool y.l, .slice y.ba y.bn y.bc, .slice y.ia y.m y.ic] 25 = B := ⟨_, rfl⟩
  rw [hA, hB]
  have h1 : ((w.alloc A).alloc B).heap[w.heap.size + 1]? = some B := heap_alloc2_new w A B
  have h0 : ((w.alloc A).alloc B).heap[w.heap.size]? = some A := (Below.heap_alloc _ _ _ (by simp)).trans (heap_alloc_new _ _)
  have hb : Below w.heap.size w ((w.alloc A).alloc B) := ((Below.refl _ _).alloc (Nat.le_refl _) _).alloc (by simp) _
  subst hA hB
  exact ⟨by rw [cell_of_row _ _ _ _ _ _ h0]; rfl, by rw [cell_of_row _ _ _ _ _ _ h0]; rfl, by rw [cell_of_row _ _ _ _ _ _ h0]; rfl, by rw [cell_of_row _ _ _ _ _ _ h1]; rfl, by rw [cell_of_row _ _ _ _ _ _ h1]; rfl, by rw [cell_of_row _ _ _ _ _ _ h1]; rfl, hb⟩
theorem Bx.go {w W v : World} {x y : V} (h : Bx w W x y) (hb : Below W.heap.size W v) : Bx w v x y := ⟨below_cell hb h.a0, below_cell hb h.a1, below_cell hb h.a2, below_cell hb h.b0, below_cell hb h.b1, below_cell hb h.b2, below_go h.bel hb⟩
theorem mk_ne {l1 l2 : Bool} {b1 b2 : List Int} {i1 i2 : List T} (h : l1 ≠ l2 ∨ b1 ≠ b2 ∨ i1 ≠ i2) : ¬ T.mk l1 b1 i1 = T.mk l2 b2 i2 := by
  intro e
  injection e with e1 e2 e3
  rcases h with h | h | h
  · exact h e1
  · exact h e2
  · exact h e3
def SameSaid (t1 : T) : Prop := ∀ (t2 : T) (x y : V) (w : World), Lies w t1 x → Lies w t2 y →
  Calls Try.prog 11 #[.agg #[.bool x.l, .slice x.ba x.bn x.bc, .slice x.ia x.m x.ic], .agg #[.bool y.l, .slice y.ba y.bn y.bc, .slice y.ia y.m y.ic]] w fun e w' => e = .returned (.bool (teq t1 t2)) ∧ Below w.heap.size w w'
set_option maxHeartbeats 2000000 in
theorem rsame_step (l1 : Bool) (bs1 : List Int) (its1 : List T) (ih : ∀ t ∈ its1, SameSaid t) : SameSaid (.mk l1 bs1 its1) := by
  intro t2 x y w hx hy
  obtain ⟨l2, bs2, its2⟩ := t2
  obtain ⟨xl, xag, xm, xic, xic2, ⟨xbn, xm2⟩, xall⟩ := lies_eq.1 hx
  obtain ⟨yl, yag, ym, yic, yic2, ⟨ybn, ym2⟩, yall⟩ := lies_eq.1 hy
  obtain ⟨res, hres⟩ : ∃ r, teq (.mk l1 bs1 its1) (.mk l2 bs2 its2) = r := ⟨_, rfl⟩
  rw [hres]
  have HRES := Hid.mk hres
  clear hres
  have hbx := bx_new w x y
  have k1 := conv_any (xag.at hbx.bel).i
  have k2 := conv_any (yag.at hbx.bel).i
  have HX := Hid.mk (lies_mono hbx.bel _ x hx)
  have HY := Hid.mk (lies_mono hbx.bel _ y hy)
  have hse := str_beq2 xag.b yag.b
  have HBX := Hid.mk hbx
  have HXM := Hid.mk xm
  have HYM := Hid.mk ym
  have HXL := Hid.mk xl
  have HYL := Hid.mk yl
  have HIH := Hid.mk ih
  clear hx hy xag yag xall yall hbx xm ym xl yl ih xic yic xic2 yic2
  obtain ⟨xl, xba, xbn', xbc, xia, xm, xic⟩ := x
  obtain ⟨yl, yba, ybn', ybc, yia, ym, yic⟩ := y
  simp only at *
  by_cases hl : xl = yl
  case neg =>
    have e : res = false := by rw [← HRES.out]; exact teq_false (mk_ne (.inl (by rw [← HXL.out, ← HYL.out]; exact hl)))
    subst e
    have hb : (xl == yl) = false := by simpa using hl
    have hn : (xl != yl) = true := by simpa using hl
    clear hse k1 k2 hl
    go_enter Try.func11, Try.ntmps11
    go_wp2_with fail
    go_ret
    exact ⟨rfl, HBX.out.bel⟩
  subst hl
  by_cases hbs : bs1 = bs2
  case neg =>
    have e : res = false := by rw [← HRES.out]; exact teq_false (mk_ne (.inr (.inl hbs)))
    subst e
    rw [decide_eq_false hbs] at hse
    generalize strOfNums bs1 = s1 at *
    generalize strOfNums bs2 = s2 at *
    have hsx : ¬ s1.toList = s2.toList := by rw [beq_eq_false_iff_ne] at hse; exact hse
    clear hbs
    go_enter Try.func11, Try.ntmps11
    go_wp2_with fail
    go_ret
    exact ⟨rfl, HBX.out.bel⟩
  subst hbs
  clear hse
  by_cases hm : xm = ym
  case neg =>
    have e : res = false := by rw [← HRES.out]; exact teq_false (mk_ne (.inr (.inr (fun e => hm (by rw [HXM.out, HYM.out, e])))))
    subst e
    have hmi : ((xm : Int) != (ym : Int)) = true := by rw [bne_iff_ne]; omega
    go_enter Try.func11, Try.ntmps11
    go_wp2_with fail
    go_ret
    exact ⟨rfl, HBX.out.bel⟩
  subst hm
  go_enter Try.func11, Try.ntmps11
  go_wp2_with fail
  obtain ⟨W, hW⟩ : ∃ W, (w.alloc (.cells #[.bool xl, .slice xba xbn' xbc, .slice xia xm xic] 25)).alloc (.cells #[.bool xl, .slice yba ybn' ybc, .slice yia xm yic] 25) = W := ⟨_, rfl⟩
  rw [hW] at HX HY HBX ⊢
  clear hW k1 k2
  go_loopw [5] (fun i v => ∃ j : Nat, j ≤ xm ∧ i = .int .i64 j ∧ its1.take j = its2.take j ∧ Below W.heap.size W v) (fun i _ => xm - (intOf i).toNat)
  case atStart => exact ⟨0, by omega, rfl, rfl, Below.refl _ _⟩
  case round =>
    obtain ⟨j, hj, rfl, htk, hbv⟩ := hrel
    have BV := HBX.out.go hbv
    have z2 := BV.a2
    have HBV := Hid.mk hbv
    have HTK := Hid.mk htk
    have HBXV := Hid.mk BV
    clear hbv htk BV
    by_cases hlt : j < xm
    · have hji : (j : Int) < xm := by omega
      obtain ⟨t1, ht1⟩ : ∃ t, its1[j]? = some t := ⟨its1[j]'(by have := HXM.out; omega), List.getElem?_eq_getElem _⟩
      obtain ⟨t2, ht2⟩ : ∃ t, its2[j]? = some t := ⟨its2[j]'(by have := HYM.out; omega), List.getElem?_eq_getElem _⟩
      have hall1 := (lies_eq.1 HX.out).2.2.2.2.2.2
      have hall2 := (lies_eq.1 HY.out).2.2.2.2.2.2
      obtain ⟨g1, o1, y1, A1⟩ := liesAll_at hall1 j t1 ht1
      obtain ⟨g2, o2, y2, A2⟩ := liesAll_at hall2 j t2 ht2
      rw [Nat.zero_add] at A1 A2
      have hxa : xia = some ⟨g1, o1, none⟩ := A1.ha
      have hya : yia = some ⟨g2, o2, none⟩ := A2.ha
      subst hxa hya
      have HA1 := Hid.mk A1
      have HA2 := Hid.mk A2
      have HT1 := Hid.mk ht1
      have HT2 := Hid.mk ht2
      clear A1 A2 ht1 ht2 hall1 hall2
      go_wp2_with fail
      rename_i K hk
      refine wp_region_held_drew (S := fun v => Below W.heap.size W v) (by kernel_rfl) HBV.out.drew (fun hS => ?_)
      refine rd_take 0 36 (.pointer (some ⟨w.heap.size, 2, none⟩)) rfl rfl (by kernel_rfl) (by kernel_rfl) (by kernel_rfl) (fun _ _ _ h => h) (by kernel_rfl) (fun v _ => by kernel_rfl) hS ?_
      refine rd_take 1 37 (.slice (some ⟨g1, o1, none⟩) xm xic) rfl rfl (by kernel_rfl) (by kernel_rfl) (by kernel_rfl) (fun _ _ _ h => h) (by kernel_rfl) (fun v hv => rd_loadL rfl (by kernel_rfl) (HBX.out.go hv).a2) hS ?_
      refine rd_take 2 38 (.int .i64 j) rfl rfl (by kernel_rfl) (by kernel_rfl) (by kernel_rfl) (fun _ _ _ h => h) (by kernel_rfl) (fun v _ => by kernel_rfl) hS ?_
      refine rd_take 3 39 (.pointer (some ⟨g1, o1 + j * 3, none⟩)) rfl rfl (by kernel_rfl) (by kernel_rfl) (by kernel_rfl) (fun _ _ _ h => h) (by kernel_rfl) (fun v _ => rd_index (m := xm) (c := xic) rfl (by kernel_rfl) (by kernel_rfl) hlt) hS ?_
      refine rd_take 4 40 (.agg #[.bool y1.l, .slice y1.ba y1.bn y1.bc, .slice y1.ia y1.m y1.ic]) rfl rfl (by kernel_rfl) (by kernel_rfl) (by kernel_rfl) (fun _ _ _ h => h) (by kernel_rfl) (fun v hv => rd_loadI rfl (by kernel_rfl) (below_cell hv HA1.out.c0) (below_cell hv HA1.out.c1) (below_cell hv HA1.out.c2)) hS ?_
      refine rd_take 5 41 (.pointer (some ⟨(w.heap.size + 1), 2, none⟩)) rfl rfl (by kernel_rfl) (by kernel_rfl) (by kernel_rfl) (fun _ _ _ h => h) (by kernel_rfl) (fun v _ => by kernel_rfl) hS ?_
      refine rd_take 6 42 (.slice (some ⟨g2, o2, none⟩) xm yic) rfl rfl (by kernel_rfl) (by kernel_rfl) (by kernel_rfl) (fun _ _ _ h => h) (by kernel_rfl) (fun v hv => rd_loadL rfl (by kernel_rfl) (HBX.out.go hv).b2) hS ?_
      refine rd_take 7 43 (.int .i64 j) rfl rfl (by kernel_rfl) (by kernel_rfl) (by kernel_rfl) (fun _ _ _ h => h) (by kernel_rfl) (fun v _ => by kernel_rfl) hS ?_
      refine rd_take 8 44 (.pointer (some ⟨g2, o2 + j * 3, none⟩)) rfl rfl (by kernel_rfl) (by kernel_rfl) (by kernel_rfl) (fun _ _ _ h => h) (by kernel_rfl) (fun v _ => rd_index (m := xm) (c := yic) rfl (by kernel_rfl) (by kernel_rfl) hlt) hS ?_
      refine rd_take 9 45 (.agg #[.bool y2.l, .slice y2.ba y2.bn y2.bc, .slice y2.ia y2.m y2.ic]) rfl rfl (by kernel_rfl) (by kernel_rfl) (by kernel_rfl) (fun _ _ _ h => h) (by kernel_rfl) (fun v hv => rd_loadI rfl (by kernel_rfl) (below_cell hv HA2.out.c0) (below_cell hv HA2.out.c1) (below_cell hv HA2.out.c2)) hS ?_
      refine wpAnyH_ready (rs := [10]) (by kernel_rfl) (by simp) ?_
      refine rd_call 10 46 rfl rfl (by kernel_rfl) 11 #[.agg #[.bool y1.l, .slice y1.ba y1.bn y1.bc, .slice y1.ia y1.m y1.ic], .agg #[.bool y2.l, .slice y2.ba y2.bn y2.bc, .slice y2.ia y2.m y2.ic]] (by kernel_rfl) (R := fun v w' => v = .bool (teq t1 t2) ∧ Below wr.drew.heap.size wr.drew w') ((HIH.out t1 (List.mem_of_getElem? HT1.out) t2 y1 y2 _ (lies_mono hS t1 y1 HA1.out.li) (lies_mono hS t2 y2 HA2.out.li)).mono fun e w' h => ⟨_, h.1, rfl, h.2⟩) (fun v w' h => below_go hS h.2) ?_ AllReadyH.nil
      rintro v w2 ⟨rfl, hb2⟩
      have hS2 := below_go hS hb2
      refine rd_take 11 47 (.bool (!teq t1 t2)) rfl rfl (by kernel_rfl) (by kernel_rfl) (by kernel_rfl) (fun _ _ _ h => h) (by kernel_rfl) (fun v _ => by kernel_rfl) hS2 ?_
      refine wpAnyH_done (by kernel_rfl) ?_ _
      have HS2 := Hid.mk hS2
      clear hS hS2 hb2
      refine cut_at (F := ⟨#[.agg #[.bool xl, .slice xba xbn' xbc, .slice (some ⟨g1, o1, none⟩) xm xic], .agg #[.bool xl, .slice yba ybn' ybc, .slice (some ⟨g2, o2, none⟩) xm yic], .pointer (some ⟨w.heap.size, 0, none⟩), .pointer (some ⟨w.heap.size + 1, 0, none⟩), u4, .int .i64 j, .pointer (some ⟨w.heap.size, 0, none⟩), .bool xl, .pointer (some ⟨w.heap.size + 1, 0, none⟩), .bool xl, .bool false, .bool false, .pointer (some ⟨w.heap.size, 1, none⟩), .slice xba xbn' xbc, .string (strOfNums bs1), .pointer (some ⟨w.heap.size + 1, 1, none⟩), .slice yba ybn' ybc, .string (strOfNums bs1), .bool false, .bool false, .bool false, .pointer (some ⟨w.heap.size, 2, none⟩), .slice (some ⟨g1, o1, none⟩) xm xic, .int .i64 xm, .pointer (some ⟨w.heap.size + 1, 2, none⟩), .slice (some ⟨g2, o2, none⟩) xm yic, .int .i64 xm, .bool false, .bool false, .int .i64 j, .pointer (some ⟨w.heap.size, 2, none⟩), .slice (some ⟨g1, o1, none⟩) xm xic, .int .i64 xm, .bool true, u34, u35, .pointer (some ⟨w.heap.size, 2, none⟩), .slice (some ⟨g1, o1, none⟩) xm xic, .int .i64 j, .pointer (some ⟨g1, o1 + j * 3, none⟩), .agg #[.bool y1.l, .slice y1.ba y1.bn y1.bc, .slice y1.ia y1.m y1.ic], .pointer (some ⟨w.heap.size + 1, 2, none⟩), .slice (some ⟨g2, o2, none⟩) xm yic, .int .i64 j, .pointer (some ⟨g2, o2 + j * 3, none⟩), .agg #[.bool y2.l, .slice y2.ba y2.bn y2.bc, .slice y2.ia y2.m y2.ic], .bool (teq t1 t2), .bool (!teq t1 t2)], []⟩) (by kernel_rfl) ?_
      refine hk _ _ ?_
      clear hk
      by_cases htt : t1 = t2
      · rw [teq_true htt]
        have HTT := Hid.mk htt
        clear htt
        go_wp2_with fail
        refine ⟨⟨j + 1, by omega, by simp, ?_, HS2.out⟩, by simp [intOf]; omega⟩
        rw [take_succ_get HT1.out, take_succ_get HT2.out, HTK.out, HTT.out]
      · rw [teq_false htt]
        have e : res = false := by
          rw [← HRES.out]
          refine teq_false (mk_ne (.inr (.inr fun e => htt ?_)))
          have h1 := HT1.out
          rw [e, HT2.out] at h1
          exact (Option.some.inj h1).symm
        subst e
        clear htt
        go_wp2_with fail
        go_ret
        exact ⟨rfl, below_go HBX.out.bel HS2.out⟩
    · have hji : ¬ (j : Int) < xm := by omega
      have e : res = true := by
        rw [← HRES.out]
        have h1 := HTK.out
        rw [List.take_of_length_le (by rw [← HXM.out]; omega), List.take_of_length_le (by rw [← HYM.out]; omega)] at h1
        exact teq_true (by rw [h1, ← HXL.out, ← HYL.out])
      subst e
      go_wp2_with fail
      go_ret
      exact ⟨rfl, below_go HBX.out.bel HBV.out⟩
theorem rsame_any : ∀ t, SameSaid t := T.ind rsame_step
theorem zero_lies (w : World) : Lies w (.mk false [] []) ⟨false, none, 0, 0, none, 0, 0⟩ :=
  lies_eq.2 ⟨rfl, ag_nil w, rfl, Nat.le_refl _, by show 0 ≤ maxLen; unfold maxLen; omega, ⟨by show 0 ≤ 140737488351232; omega, by show 0 ≤ 140737488351232; omega⟩, liesAll_nil⟩
theorem rsame_zero (w : World) : Calls Try.prog 11 #[.agg #[.bool false, .slice none 0 0, .slice none 0 0], .agg #[.bool false, .slice none 0 0, .slice none 0 0]] w fun e w' => e = .returned (.bool true) ∧ Below w.heap.size w w' := by
  have h := rsame_any _ _ _ _ w (zero_lies w) (zero_lies w)
  rw [teq_self] at h
  exact h
end Go.Proofs.Ytkbdkenpblcofab

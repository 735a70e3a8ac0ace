/- What Right answers. -/
import Derived.Test.YtamibjgahcpkcaaG12
import Derived.Test.YtamibjgahcpkcaaG18
import Derived.Test.YtamibjgahcpkcaaG16
namespace Go.Proofs.Ytamibjgahcpkcaa.Ni
open Go.RowKit
set_option linter.unusedVariables false
set_option maxHeartbeats 400000 in
theorem right_any (a : Option Addr) (n c : Nat) (b : List Int) (w : World) (h : Ag w a n c b) (hn : n ≤ 140737488355328) :
    Calls Try.prog 46 #[.slice a n c] w fun e w' => e = .returned (.bool (rightP b)) ∧ w' = w := by
  have HL := Hid.mk h.l
  have HC : Hid (0 < n → ∃ g off, a = some ⟨g, off, none⟩ ∧ n ≤ c ∧ c ≤ maxLen ∧ ∀ j, j < n → w.cell? ⟨g, off + j, none⟩ = some (.int .u8 (b.getD j 0))) := Hid.mk (ag_head h)
  have HB := Hid.mk h.b
  clear h
  obtain ⟨res, hres⟩ : ∃ r, rightP b = r := ⟨_, rfl⟩
  rw [hres]
  have HRES := Hid.mk hres
  clear hres
  go_enter Try.func46, Try.ntmps46
  go_wp2_with fail
  go_loopw [7] (fun i v => ∃ j : Nat, j ≤ n ∧ i = .int .i64 j ∧ (∀ i, i < j → b.getD i 0 ≤ 15) ∧ v = w) (fun i _ => n - (intOf i).toNat)
  case atStart => exact ⟨0, by omega, rfl, fun i hi => by omega, rfl⟩
  case round =>
    obtain ⟨j, hj, rfl, hle, rfl⟩ := hrel
    have HLE := Hid.mk hle
    clear hle
    by_cases hlt : j < n
    · obtain ⟨g, off, rfl, hnc, hcm, hcs⟩ := HC.out (by omega)
      unfold maxLen at hcm
      have hcell := hcs j hlt
      have hx := HB.out _ (getD_mem (show j < b.length by have := HL.out; omega))
      have HX : Hid (b.getD j 0 > 15 → rightP b = false) := Hid.mk (fun h => right_no (by have := HL.out; omega) h)
      have HY : Hid (b.getD j 0 ≤ 15 → ∀ i, i < j + 1 → b.getD i 0 ≤ 15) := Hid.mk (fun h i hi => by
        by_cases e : i = j
        · rw [e]; exact h
        · exact HLE.out i (by omega))
      generalize b.getD j 0 = x at hcell hx HX HY
      obtain ⟨hx0, hx1⟩ := hx
      have hji : (j : Int) < n := by omega
      clear hcs
      by_cases h15 : x > 15
      · have e : res = false := HRES.out.symm.trans (HX.out h15)
        subst e
        go_wp2_with fail
        go_ret
        exact ⟨rfl, rfl⟩
      · have h15' : ¬ x > 15 := h15
        go_wp2_with fail
        exact ⟨⟨j + 1, by omega, by simp, HY.out (by omega), trivial⟩, by simp [intOf]; omega⟩
    · have hji : ¬ (j : Int) < n := by omega
      have e : res = true := HRES.out.symm.trans (right_yes fun i hi => HLE.out i (by have := HL.out; omega))
      subst e
      go_wp2_with fail
      go_ret
      exact ⟨rfl, rfl⟩
end Go.Proofs.Ytamibjgahcpkcaa.Ni
/- What rightPath and rightValue answer. -/
namespace Go.Proofs.Ytamibjgahcpkcaa
open Go.RowKit
set_option linter.unusedVariables false
set_option maxRecDepth 100000
set_option maxHeartbeats 1000000 in
theorem rightPath_any (K : Nat → Prop) (x : NV) (n : PN) (w : World) (h : NodeAt K w x n) :
    Calls Try.prog 26 #[.agg x.cells.toArray] w fun e w' => e = .returned (.bool (rpathP n)) ∧ Below w.heap.size w w' := by
  have B := nbx_new w x h.c.len
  have HB := Hid.mk (below_new w (.cells x.cells.toArray 29))
  have hk := h.k
  have hp := h.p
  have hpb := hp.2.1
  have HL := Hid.mk hp.l
  have HRR := Hid.mk (show ∀ v, Below w.heap.size w v → Calls Try.prog 46 #[.slice x.pa x.pn x.pc] v fun e w' => e = .returned (.bool (Ni.rightP n.p)) ∧ w' = v from fun v hv => Ni.right_any _ _ _ _ v (hp.1.at hv) (by omega))
  obtain ⟨rp, hrp⟩ : ∃ rp, Ni.rightP n.p = rp := ⟨_, rfl⟩
  obtain ⟨res, hres⟩ : ∃ res, rpathP n = res := ⟨_, rfl⟩
  rw [hres]
  unfold rpathP at hres
  rw [HL.out, hrp, ← hk] at hres
  rw [hrp] at HRR
  have HRES := Hid.mk hres
  clear hp h hk hres hrp
  go_enter Try.func26, Try.ntmps26
  go_upto_region 1 with fail
  refine gen_w (p := fun v => Code.wp _ _ _ _ v) (q := fun v => NBx w.heap.size v x ∧ Below w.heap.size w v) ⟨B, HB.out⟩ ?_
  clear B HB
  rintro v ⟨B, hb⟩
  have HB := Hid.mk hb
  have c0 := B.c0
  have c1 := B.c1
  clear hb B
  by_cases h2 : x.k = 2
  · by_cases h0 : x.pn = 0
    · go_wp2_with fail
      have hr := HRES.out
      simp [h2, h0] at hr
      subst hr
      go_ret
      first | exact ⟨rfl, HB.out⟩ | (refine ⟨congrArg (fun b => Ending.returned (Value.bool b)) ?_, HB.out⟩; first | (simp; done) | (simp; omega))
    · by_cases h64 : x.pn ≤ 64
      · go_wp2_with fail
        refine (HRR.out v HB.out).mono ?_
        rintro e w1 ⟨rfl, rfl⟩
        go_wp2_with fail
        have hr := HRES.out
        simp [h2, h0, h64] at hr
        subst hr
        go_ret
        first | exact ⟨rfl, HB.out⟩ | (refine ⟨congrArg (fun b => Ending.returned (Value.bool b)) ?_, HB.out⟩; first | (simp; done) | (simp; omega))
      · go_wp2_with fail
        have hr := HRES.out
        simp [h2, h0, h64] at hr
        subst hr
        go_ret
        first | exact ⟨rfl, HB.out⟩ | (refine ⟨congrArg (fun b => Ending.returned (Value.bool b)) ?_, HB.out⟩; first | (simp; done) | (simp; omega))
  · by_cases h1 : x.k = 1
    · by_cases h64 : x.pn ≤ 64
      · go_wp2_with fail
        refine (HRR.out v HB.out).mono ?_
        rintro e w1 ⟨rfl, rfl⟩
        go_wp2_with fail
        have hr := HRES.out
        simp [h1, h64] at hr
        subst hr
        go_ret
        first | exact ⟨rfl, HB.out⟩ | (refine ⟨congrArg (fun b => Ending.returned (Value.bool b)) ?_, HB.out⟩; first | (simp; done) | (simp; omega))
      · go_wp2_with fail
        have hr := HRES.out
        simp [h1, h64] at hr
        subst hr
        go_ret
        first | exact ⟨rfl, HB.out⟩ | (refine ⟨congrArg (fun b => Ending.returned (Value.bool b)) ?_, HB.out⟩; first | (simp; done) | (simp; omega))
    · by_cases h0 : x.pn = 0
      · go_wp2_with fail
        have hr := HRES.out
        simp [h1, h2, h0] at hr
        subst hr
        go_ret
        first | exact ⟨rfl, HB.out⟩ | (refine ⟨congrArg (fun b => Ending.returned (Value.bool b)) ?_, HB.out⟩; first | (simp; done) | (simp; omega))
      · go_wp2_with fail
        have hr := HRES.out
        simp [h1, h2, h0] at hr
        subst hr
        go_ret
        first | exact ⟨rfl, HB.out⟩ | (refine ⟨congrArg (fun b => Ending.returned (Value.bool b)) ?_, HB.out⟩; first | (simp; done) | (simp; omega))
set_option maxHeartbeats 1000000 in
theorem rightValue_any (K : Nat → Prop) (x : NV) (n : PN) (w : World) (h : NodeAt K w x n) :
    Calls Try.prog 27 #[.agg x.cells.toArray] w fun e w' => e = .returned (.bool (rvalueP n)) ∧ Below w.heap.size w w' := by
  have B := nbx_new w x h.c.len
  have HB := Hid.mk (below_new w (.cells x.cells.toArray 29))
  have hk := h.k
  have hp := h.v
  have hpb := hp.2.1
  have HL := Hid.mk hp.l
  obtain ⟨res, hres⟩ : ∃ res, rvalueP n = res := ⟨_, rfl⟩
  rw [hres]
  unfold rvalueP at hres
  rw [HL.out, ← hk] at hres
  have HRES := Hid.mk hres
  clear hp h hk hres
  go_enter Try.func27, Try.ntmps27
  go_upto_region 1 with fail
  refine gen_w (p := fun v => Code.wp _ _ _ _ v) (q := fun v => NBx w.heap.size v x ∧ Below w.heap.size w v) ⟨B, HB.out⟩ ?_
  clear B HB
  rintro v ⟨B, hb⟩
  have HB := Hid.mk hb
  have c0 := B.c0
  have c1 := B.c2
  clear hb B
  by_cases h2 : x.k = 1
  · by_cases h0 : x.vn = 0
    · go_wp2_with fail
      have hr := HRES.out
      simp [h2, h0] at hr
      subst hr
      go_ret
      first | exact ⟨rfl, HB.out⟩ | (refine ⟨congrArg (fun b => Ending.returned (Value.bool b)) ?_, HB.out⟩; first | (simp; done) | (simp; omega))
    · by_cases h64 : x.vn ≤ 256
      · go_wp2_with fail
        have hr := HRES.out
        simp [h2, h0, h64] at hr
        subst hr
        go_ret
        first | exact ⟨rfl, HB.out⟩ | (refine ⟨congrArg (fun b => Ending.returned (Value.bool b)) ?_, HB.out⟩; first | (simp; done) | (simp; omega))
      · go_wp2_with fail
        have hr := HRES.out
        simp [h2, h0, h64] at hr
        subst hr
        go_ret
        first | exact ⟨rfl, HB.out⟩ | (refine ⟨congrArg (fun b => Ending.returned (Value.bool b)) ?_, HB.out⟩; first | (simp; done) | (simp; omega))
  · by_cases h1 : x.k = 3
    · by_cases h64 : x.vn ≤ 256
      · go_wp2_with fail
        have hr := HRES.out
        simp [h1, h64] at hr
        subst hr
        go_ret
        first | exact ⟨rfl, HB.out⟩ | (refine ⟨congrArg (fun b => Ending.returned (Value.bool b)) ?_, HB.out⟩; first | (simp; done) | (simp; omega))
      · go_wp2_with fail
        have hr := HRES.out
        simp [h1, h64] at hr
        subst hr
        go_ret
        first | exact ⟨rfl, HB.out⟩ | (refine ⟨congrArg (fun b => Ending.returned (Value.bool b)) ?_, HB.out⟩; first | (simp; done) | (simp; omega))
    · by_cases h0 : x.vn = 0
      · go_wp2_with fail
        have hr := HRES.out
        simp [h1, h2, h0] at hr
        subst hr
        go_ret
        first | exact ⟨rfl, HB.out⟩ | (refine ⟨congrArg (fun b => Ending.returned (Value.bool b)) ?_, HB.out⟩; first | (simp; done) | (simp; omega))
      · go_wp2_with fail
        have hr := HRES.out
        simp [h1, h2, h0] at hr
        subst hr
        go_ret
        first | exact ⟨rfl, HB.out⟩ | (refine ⟨congrArg (fun b => Ending.returned (Value.bool b)) ?_, HB.out⟩; first | (simp; done) | (simp; omega))
end Go.Proofs.Ytamibjgahcpkcaa

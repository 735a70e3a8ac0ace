/- What the document's Encode answers. -/
import Derived.Test.YtamibjgahcpkcaaG25
import Derived.Test.YtamibjgahcpkcaaG12
import Derived.Test.YtamibjgahcpkcaaG13
namespace Go.Proofs.Ytamibjgahcpkcaa
open Go.RowKit
set_option linter.unusedVariables false
set_option maxRecDepth 100000
theorem wk_small {l : Bool} {bs : List Int} {its : List T} (h : (wk (.mk l bs its) 0 0).2 = 0) : bs.length ≤ 16777215 ∧ szs its ≤ 167772150 ∧ rszs its ≤ szs its ∧ Like (rszs its) (szs its) := by
  have hf := wk_form _ 0 0 h
  obtain ⟨h1, h2, h3, h4⟩ := wk_ok h
  have hw := wrong_false h2
  have hb : bs.length ≤ 16777215 := by
    cases l with
    | true => have e : bs = [] := by simpa using hw
              rw [e]; simp
    | false => unfold wt at h3; simp at h3; omega
  have hfs : forms its = true := by
    cases l with
    | true => exact (form_list hf).2
    | false => rw [form_text hf, forms_nil]
  have hk := rszs_like fun t ht => rsz_like t (forms_mem hfs t ht)
  rw [h4] at h
  obtain ⟨W, hW⟩ : ∃ W, wks its 1 (0 + wt l bs 0) = (W, 0) := ⟨(wks its 1 (0 + wt l bs 0)).1, Prod.ext rfl h⟩
  have hbd := wks_bound (by omega) h3 hW
  exact ⟨hb, by omega, rszs_le hfs, hk⟩
set_option maxHeartbeats 4000000 in
theorem rencode_any (t : T) (x : V) (w : World) (hx : Lies w t x) :
    Calls Try.prog 37 #[.agg #[.bool x.l, .slice x.ba x.bn x.bc, .slice x.ia x.m x.ic]] w fun e w' => (∃ a n c, e = .returned (.tuple #[.slice a n c, .int .i64 ((encP t).2 : Nat)]) ∧ Ag w' a n c (encP t).1 ∧ (x.l = true → Nw w.heap.size a)) ∧ Below w.heap.size w w' := by
  obtain ⟨l, bs, its⟩ := t
  have HBN := Hid.mk (below_new w (.cells #[.bool x.l, .slice x.ba x.bn x.bc, .slice x.ia x.m x.ic] 49))
  have HBX := Hid.mk (b1_new w x)
  have HX := Hid.mk (lies_mono HBN.out _ x hx)
  have xm := (lies_eq.1 hx).2.2.1
  have xm2 := (lies_eq.1 hx).2.2.2.2.2.1.2
  have hbl := (lies_eq.1 hx).2.1.l
  have HXM := Hid.mk xm
  have hcal := walk_any (.mk l bs its) x _ 0 0 HX.out (by omega) (by omega)
  rw [show ((0 : Nat) : Int) = 0 from rfl] at hcal
  obtain ⟨⟨ww, er⟩, hwk⟩ : ∃ r, wk (.mk l bs its) 0 0 = r := ⟨_, rfl⟩
  rw [hwk] at hcal
  simp only at hcal
  by_cases her : er = 0
  case neg =>
    have hm : mP (.mk l bs its) = (0, er) := by unfold mP; rw [hwk, if_pos (by simpa using her)]
    have he : encP (.mk l bs its) = ([], er) := by unfold encP; rw [hm, if_neg (by simpa using her)]
    rw [he]
    have hee : ((er : Int) != 0) = true := by rw [bne_iff_ne]; omega
    have HC := Hid.mk hcal
    clear hcal hm he hx hwk xm hbl xm2
    go_enter Try.func37, Try.ntmps37
    go_wp2_with fail
    refine HC.out.mono ?_
    rintro e w1 ⟨rfl, hb1⟩
    have HB1 := Hid.mk (below_go HBN.out hb1)
    clear hb1 HC
    go_wp2_with fail
    go_ret2
    exact ⟨⟨none, 0, 0, rfl, ag_nil _, fun _ g off h => by cases h⟩, HB1.out⟩
  subst her
  rw [show ((0 : Nat) : Int) = 0 from rfl] at hcal
  have h0 : (wk (.mk l bs its) 0 0).2 = 0 := by rw [hwk]
  obtain ⟨s1, s2, s3, s4⟩ := wk_small h0
  have hfs : forms its = true := by
    have hf := wk_form _ 0 0 h0
    cases l with
    | true => exact (form_list hf).2
    | false => rw [form_text hf, forms_nil]
  have hmP : mP (.mk l bs its) = if 16777215 < bs.length + szs its then (0, 20) else (sz (.mk l bs its), 0) := by unfold mP; rw [if_neg (by rw [h0]; simp)]; rfl
  have hN : (16777215 < bs.length + szs its) ↔ (16777215 < bs.length + rszs its) := by unfold Like at s4; omega
  have hbody : (bodyOf (.mk l bs its)).length = bs.length + szs its := by rw [← szb_len (wk_form _ 0 0 h0)]; rfl
  obtain ⟨E, hE⟩ : ∃ E, encP (.mk l bs its) = E := ⟨_, rfl⟩
  rw [hE]
  have HEE : Hid (encP (.mk l bs its) = E) := Hid.mk hE
  have HMP := Hid.mk hmP
  have HN := Hid.mk hN
  have HBO := Hid.mk hbody
  have HFS := Hid.mk hfs
  have HC := Hid.mk hcal
  obtain ⟨xl, xba, xbn, xbc, xia, xm', xic⟩ := x
  simp only at xm2 hbl HBX HBN HX HXM HC
  have HBL := Hid.mk hbl
  obtain ⟨LB, hLB⟩ : ∃ LB, bs.length = LB := ⟨_, rfl⟩
  have hLx : LB = xbn := by omega
  subst hLx
  clear hcal hE hmP hN hbody hfs hx hwk h0 xm s4 hbl
  have HLB := Hid.mk hLB
  rw [hLB] at s1 HMP HN HBO
  clear hLB
  go_enter Try.func37, Try.ntmps37
  go_wp2_with fail
  refine HC.out.mono ?_
  rintro e w1 ⟨rfl, hb1⟩
  obtain ⟨c0, c1, c2⟩ := HBX.out.go hb1
  simp only at c0 c1 c2
  have HB1 := Hid.mk (below_go HBN.out hb1)
  have HX1 := Hid.mk (lies_mono hb1 _ _ HX.out)
  have HBX1 := Hid.mk (HBX.out.go hb1)
  clear hb1 HC HBX HX
  go_wp2_with fail
  go_loopw [6, 7] (fun p q v => ∃ u : Nat, u ≤ xm' ∧ q = .int .i64 u ∧ p = .int .i64 (LB + rszs (its.take u) : Nat) ∧ Below w1.heap.size w1 v) (fun _ q _ => xm' - (intOf q).toNat)
  case atStart => exact ⟨0, by omega, rfl, by rw [List.take_zero, rszs_nil]; rfl, Below.refl _ _⟩
  case round =>
    clear c0 c1 c2
    obtain ⟨u, hu, rfl, rfl, hbv⟩ := hrel
    obtain ⟨d0, d1, d2⟩ := HBX1.out.go hbv
    simp only at d0 d1 d2
    have HBV := Hid.mk hbv
    clear hbv
    by_cases hlt : u < xm'
    · have hui : (u : Int) < xm' := by omega
      obtain ⟨t, ht⟩ : ∃ t, its[u]? = some t := ⟨its[u]'(by have := HXM.out; omega), List.getElem?_eq_getElem _⟩
      obtain ⟨g, off, y, A⟩ := liesAll_at (lies_eq.1 HX1.out).2.2.2.2.2.2 u t ht
      rw [Nat.zero_add] at A
      have ha : xia = some ⟨g, off, none⟩ := A.ha
      subst ha
      have y0 := below_cell HBV.out A.c0
      have y1 := below_cell HBV.out A.c1
      have y2 := below_cell HBV.out A.c2
      have hmem := List.mem_of_getElem? ht
      have hmore := rszs_more ht
      have hle := rszs_take (its := its) (u + 1)
      have hcal := size_any t y wr (lies_mono HBV.out t y A.li) (forms_mem HFS.out t hmem) (by omega)
      obtain ⟨r1, hr1⟩ : ∃ r1, LB + rszs (its.take u) = r1 := ⟨_, rfl⟩
      obtain ⟨r2, hr2⟩ : ∃ r2, rsz t = r2 := ⟨_, rfl⟩
      have hmo : LB + rszs (its.take (u + 1)) = r1 + r2 := by omega
      rw [hr1]
      rw [hr2] at hcal
      have HC := Hid.mk hcal
      have HMO := Hid.mk hmo
      have hb1 : r1 + r2 ≤ 1000000000000 := by omega
      clear hcal ht A hmem hmore hle hr1 hr2 hmo
      go_wp2_with fail
      refine HC.out.mono ?_
      rintro e w2 ⟨rfl, hb2⟩
      have HB2 := Hid.mk (below_go HBV.out hb2)
      clear hb2
      go_wp2_with fail
      exact ⟨⟨u + 1, by omega, by simp, by rw [HMO.out]; simp, HB2.out⟩, by simp [intOf]; omega⟩
    · have hui : ¬ (u : Int) < xm' := by omega
      have htk : its.take u = its := List.take_of_length_le (by rw [← HXM.out]; omega)
      rw [htk]
      have hn := HN.out
      have hmp := HMP.out
      have hbo := HBO.out
      obtain ⟨S0, hS0⟩ : ∃ S0, LB + rszs its = S0 := ⟨_, rfl⟩
      rw [hS0] at hn ⊢
      clear htk
      by_cases hmax : 16777215 < S0
      · have hmi : (S0 : Int) > 16777215 := by omega
        rw [if_pos (hn.2 hmax)] at hmp
        have he : E = ([], 20) := by rw [← HEE.out]; unfold encP; rw [hmp, if_neg (by decide)]
        subst he
        clear hn hmp hbo hS0
        go_wp2_with fail
        go_ret2
        exact ⟨⟨none, 0, 0, rfl, ag_nil _, fun _ g off h => by cases h⟩, below_go HB1.out HBV.out⟩
      · have hmi : ¬ (S0 : Int) > 16777215 := by omega
        have hng : ¬ 16777215 < LB + szs its := fun h => hmax (hn.1 h)
        rw [if_neg hng] at hmp
        have he : E = (enc (.mk l bs its), 0) := by rw [← HEE.out]; unfold encP; rw [hmp, if_pos rfl]
        subst he
        have hcal := rbytes_any (.mk l bs its) _ wr (lies_mono HBV.out _ _ HX1.out) (by omega)
        have HC := Hid.mk hcal
        clear hn hmp hbo hS0 hcal
        go_wp2_with fail
        refine HC.out.mono ?_
        rintro e w2 ⟨⟨a2, n2, c2, rfl, hag2, hnw⟩, hb2⟩
        have HNW := Hid.mk (fun h => (hnw h).mono (Nat.le_trans HB1.out.size HBV.out.size))
        have HA2 := Hid.mk hag2
        have HB2 := Hid.mk (below_go HBV.out hb2)
        clear hag2 hb2 hnw
        go_wp2_with fail
        go_ret2
        exact ⟨⟨a2, n2, c2, rfl, HA2.out, HNW.out⟩, below_go HB1.out HB2.out⟩
end Go.Proofs.Ytamibjgahcpkcaa
/- What the document's SameRef answers: are two references the same? -/
namespace Go.Proofs.Ytamibjgahcpkcaa
open Go.RowKit
set_option linter.unusedVariables false
set_option maxRecDepth 100000
def reqP (r s : PR) : Bool := decide (r.k = s.k) && decide (r.d = s.d) && decide (r.i = s.i)
theorem reqP_iff {r s : PR} : reqP r s = true ↔ r = s := by
  constructor
  · intro h
    simp [reqP] at h
    exact PR.ext h.1.1 h.1.2 h.2
  · rintro rfl
    simp [reqP]
theorem rbx2_new (w : World) (x y : RV) (hx : x.d.length = 32) (hy : y.d.length = 32) : RBx w.heap.size ((w.alloc (.cells x.cells.toArray 26)).alloc (.cells y.cells.toArray 26)) x ∧ RBx (w.heap.size + 1) ((w.alloc (.cells x.cells.toArray 26)).alloc (.cells y.cells.toArray 26)) y ∧ Below w.heap.size w ((w.alloc (.cells x.cells.toArray 26)).alloc (.cells y.cells.toArray 26)) := by
  have s1 : (w.alloc (.cells x.cells.toArray 26)).heap.size = w.heap.size + 1 := by simp
  have h2 := rbx_new (w.alloc (.cells x.cells.toArray 26)) y hy
  rw [s1] at h2
  exact ⟨(rbx_new w x hx).go (below_new _ _), h2, below_go (below_new w _) (below_new _ _)⟩
set_option maxHeartbeats 4000000 in
theorem sameRef_any (K L : Nat → Prop) (x y : RV) (r s : PR) (w : World) (hx : RefAt K w x r) (hy : RefAt L w y s) :
    Calls Try.prog 20 #[.agg x.cells.toArray, .agg y.cells.toArray] w fun e w' => e = .returned (.bool (reqP r s)) ∧ Below w.heap.size w w' := by
  have HBX := Hid.mk (rbx2_new w x y hx.len hy.len)
  have HLX := Hid.mk hx.len
  have HLY := Hid.mk hy.len
  have HX := Hid.mk hx
  have HY := Hid.mk hy
  obtain ⟨res, hres⟩ : ∃ res, reqP r s = res := ⟨_, rfl⟩
  rw [hres]
  unfold reqP at hres
  rw [← hx.1, ← hy.1, ← hx.2.1, ← hy.2.1] at hres
  have HRES := Hid.mk hres
  clear hx hy hres
  go_enter Try.func20, Try.ntmps20
  go_upto_region 1 with fail
  refine gen_w (p := fun v => Code.wp _ _ _ _ v) (q := fun v => RBx w.heap.size v x ∧ RBx (w.heap.size + 1) v y ∧ Below w.heap.size w v) HBX.out ?_
  clear HBX
  rintro v ⟨X0, Y0, hb⟩
  have c0 := X0.c0
  have c1 := X0.c33
  have d0 := Y0.c0
  have d1 := Y0.c33
  have k1 := conv_any (HX.out.2.2.2.2.1.at hb).i
  have k2 := conv_any (HY.out.2.2.2.2.1.at hb).i
  have HS := Hid.mk (Ni.str_beq HX.out.2.2.2.2.1.b HY.out.2.2.2.2.1.b)
  generalize strOfNums r.i = s1 at k1 HS
  generalize strOfNums s.i = s2 at k2 HS
  have HX0 := Hid.mk X0
  have HY0 := Hid.mk Y0
  have HB := Hid.mk hb
  clear X0 Y0 hb
  by_cases hk : x.k = y.k
  · have hkb : (x.k == y.k) = true := by simp [hk]
    have HK := Hid.mk hk
    clear hk
    by_cases hd : x.d = y.d
    · have HQ := Hid.mk (show (x.d == y.d) = true from by simp [hd])
      have HD := Hid.mk hd
      clear hd
      go_wp2_with (first | refine wpl_loadD rfl _ rfl w.heap.size 1 rfl x.d HLX.out HX0.out.digest ?_ | refine wpl_loadD rfl _ rfl (w.heap.size + 1) 1 rfl y.d HLY.out HY0.out.digest ?_ | refine wpl_eqD rfl _ _ rfl x.d y.d rfl rfl HLX.out HLY.out true HQ.out ?_)
      go_ret
      refine ⟨congrArg (fun b => Ending.returned (Value.bool b)) ?_, HB.out⟩
      rw [← HRES.out, HK.out, HD.out]
      simp
      exact HS.out
    · have HQ := Hid.mk (show (x.d == y.d) = false from by simp [hd])
      have HD := Hid.mk hd
      clear hd
      go_wp2_with (first | refine wpl_loadD rfl _ rfl w.heap.size 1 rfl x.d HLX.out HX0.out.digest ?_ | refine wpl_loadD rfl _ rfl (w.heap.size + 1) 1 rfl y.d HLY.out HY0.out.digest ?_ | refine wpl_eqD rfl _ _ rfl x.d y.d rfl rfl HLX.out HLY.out false HQ.out ?_)
      go_ret
      refine ⟨congrArg (fun b => Ending.returned (Value.bool b)) ?_, HB.out⟩
      rw [← HRES.out]
      simp [HD.out]
  · have hkb : (x.k == y.k) = false := by simp [hk]
    have HK := Hid.mk hk
    clear hk
    go_wp2_with fail
    go_ret
    refine ⟨congrArg (fun b => Ending.returned (Value.bool b)) ?_, HB.out⟩
    rw [← HRES.out]
    simp [HK.out]
end Go.Proofs.Ytamibjgahcpkcaa
/- What the document's Same answers: are two nodes the same? -/
namespace Go.Proofs.Ytamibjgahcpkcaa
open Go.RowKit
set_option linter.unusedVariables false
set_option maxRecDepth 100000
def kseq : List PR → List PR → Bool
  | [], [] => true
  | r :: a, s :: b => reqP r s && kseq a b
  | _, _ => false
theorem kseq_iff : ∀ {a b : List PR}, kseq a b = true ↔ a = b
  | [], [] => by simp [kseq]
  | [], s :: b => by simp [kseq]
  | r :: a, [] => by simp [kseq]
  | r :: a, s :: b => by
    rw [kseq, Bool.and_eq_true, reqP_iff, kseq_iff]
    simp
theorem kseq_all : ∀ {a b : List PR}, a.length = b.length → (∀ (i : Nat) (r s : PR), a[i]? = some r → b[i]? = some s → reqP r s = true) → kseq a b = true
  | [], [], _, _ => rfl
  | r :: a, s :: b, h, hh => by
    rw [kseq, hh 0 r s rfl rfl, kseq_all (by simpa using h) fun i p q h1 h2 => hh (i + 1) p q (by simpa using h1) (by simpa using h2)]
    rfl
theorem kseq_no {a b : List PR} {i : Nat} {r s : PR} (h1 : a[i]? = some r) (h2 : b[i]? = some s) (h : reqP r s = false) : kseq a b = false := by
  cases hk : kseq a b with
  | false => rfl
  | true =>
    have := kseq_iff.1 hk
    subst this
    rw [h1] at h2
    cases h2
    rw [reqP_iff.2 rfl] at h
    cases h
def neqP (n m : PN) : Bool := reqP n.c m.c && decide (n.k = m.k) && decide (n.p = m.p) && decide (n.v = m.v) && decide (n.ks.length = m.ks.length) && kseq n.ks m.ks
theorem neqP_iff {n m : PN} : neqP n m = true ↔ n = m := by
  constructor
  · intro h
    simp only [neqP, Bool.and_eq_true, decide_eq_true_eq, reqP_iff, kseq_iff] at h
    exact PN.ext h.1.1.1.1.2 h.1.1.1.2 h.1.1.2 h.1.1.1.1.1 h.2
  · rintro rfl
    simp only [neqP, Bool.and_eq_true, decide_eq_true_eq, reqP_iff, kseq_iff]
    simp
section
variable {a : Act} {w : World}
theorem rd_loadK {x : Operand} {p : Addr} {v : Value} {o : Oper} (ho : o.op = .load 27 x) (hx : a.eval x = .pointer (some p)) (hc : w.cell? p = some v) : (execOp a.eval o).run Try.prog w = .ok (.value v) w := by
  unfold execOp
  rw [ho]
  simp only [hx]
  go_simp
theorem rd_indexR {x y : Operand} {g off j m c : Nat} {o : Oper} (ho : o.op = .indexAddr 27 x y) (hx : a.eval x = .slice (some ⟨g, off, none⟩) m c) (hy : a.eval y = .int .i64 j) (hj : j < m) : (execOp a.eval o).run Try.prog w = .ok (.value (.pointer (some ⟨g, off + j * 34, none⟩))) w := by
  have hji : (j : Int) < m := by omega
  unfold execOp
  rw [ho]
  simp only [hx, hy]
  go_simp
end
theorem nbx2_new (w : World) (x y : NV) (hx : x.c.d.length = 32) (hy : y.c.d.length = 32) : NBx w.heap.size ((w.alloc (.cells x.cells.toArray 29)).alloc (.cells y.cells.toArray 29)) x ∧ NBx (w.heap.size + 1) ((w.alloc (.cells x.cells.toArray 29)).alloc (.cells y.cells.toArray 29)) y ∧ Below w.heap.size w ((w.alloc (.cells x.cells.toArray 29)).alloc (.cells y.cells.toArray 29)) := by
  have s1 : (w.alloc (.cells x.cells.toArray 29)).heap.size = w.heap.size + 1 := by simp
  have h2 := nbx_new (w.alloc (.cells x.cells.toArray 29)) y hy
  rw [s1] at h2
  exact ⟨(nbx_new w x hx).go (below_new _ _), h2, below_go (below_new w _) (below_new _ _)⟩
set_option maxHeartbeats 8000000 in
theorem same_any (K L : Nat → Prop) (x y : NV) (n m : PN) (w : World) (hx : NodeAt K w x n) (hy : NodeAt L w y m) :
    Calls Try.prog 13 #[.agg x.cells.toArray, .agg y.cells.toArray] w fun e w' => e = .returned (.bool (neqP n m)) ∧ Below w.heap.size w w' := by
  have HBX := Hid.mk (nbx2_new w x y hx.c.len hy.c.len)
  have HX := Hid.mk hx
  have HY := Hid.mk hy
  obtain ⟨qc, hqc⟩ : ∃ qc, reqP n.c m.c = qc := ⟨_, rfl⟩
  have HSR := Hid.mk (show ∀ v, Below w.heap.size w v → Calls Try.prog 20 #[.agg x.c.cells.toArray, .agg y.c.cells.toArray] v fun e w' => e = .returned (.bool qc) ∧ Below v.heap.size v w' from fun v hv => by
    rw [← hqc]; exact sameRef_any K L x.c y.c n.c m.c v (hx.c.go (Keep.below hv)) (hy.c.go (Keep.below hv)))
  obtain ⟨res, hres⟩ : ∃ res, neqP n m = res := ⟨_, rfl⟩
  rw [hres]
  unfold neqP at hres
  rw [hqc, ← hx.k, ← hy.k, ← hx.m.1, ← hy.m.1] at hres
  have HRES := Hid.mk hres
  have hxm := hx.m
  have hym := hy.m
  obtain ⟨hx1, hx2, hx3, hx4, hx5⟩ := hxm
  obtain ⟨hy1, hy2, hy3, hy4, hy5⟩ := hym
  unfold maxLen at hx3 hy3
  have HX1 := Hid.mk hx1
  have HY1 := Hid.mk hy1
  clear hx hy hres hqc hx1 hy1 hx5 hy5
  go_enter Try.func13, Try.ntmps13
  go_upto_region 1 with fail
  refine gen_w (p := fun v => Code.wp _ _ _ _ v) (q := fun v => NBx w.heap.size v x ∧ NBx (w.heap.size + 1) v y ∧ Below w.heap.size w v) HBX.out ?_
  clear HBX
  rintro v ⟨X0, Y0, hb⟩
  have HX0 := Hid.mk X0
  have HY0 := Hid.mk Y0
  have HB := Hid.mk hb
  clear X0 Y0 hb
  go_wp2_with (first | refine wpl_loadR rfl _ rfl w.heap.size 3 rfl x.c HX.out.c.len HX0.out.child ?_ | refine wpl_loadR rfl _ rfl (w.heap.size + 1) 3 rfl y.c HY.out.c.len HY0.out.child ?_)
  refine (HSR.out v HB.out).mono ?_
  rintro e w1 ⟨rfl, hb1⟩
  have X1 := HX0.out.go hb1
  have Y1 := HY0.out.go hb1
  have hB1 := below_go HB.out hb1
  have c0 := X1.c0
  have c1 := X1.c1
  have c2 := X1.c2
  have c37 := X1.c37
  have d0 := Y1.c0
  have d1 := Y1.c1
  have d2 := Y1.c2
  have d37 := Y1.c37
  have k1 := conv_any (HX.out.p.1.at hB1).i
  have k2 := conv_any (HY.out.p.1.at hB1).i
  have k3 := conv_any (HX.out.v.1.at hB1).i
  have k4 := conv_any (HY.out.v.1.at hB1).i
  have hsp := Ni.str_beq HX.out.p.1.b HY.out.p.1.b
  have hsv := Ni.str_beq HX.out.v.1.b HY.out.v.1.b
  generalize strOfNums n.p = s1 at k1 hsp
  generalize strOfNums m.p = s2 at k2 hsp
  generalize strOfNums n.v = s3 at k3 hsv
  generalize strOfNums m.v = s4 at k4 hsv
  have HX1' := Hid.mk X1
  have HY1' := Hid.mk Y1
  have HB1 := Hid.mk hB1
  have HSP := Hid.mk hsp
  have HSV := Hid.mk hsv
  clear hb1 X1 Y1 hB1 hsp hsv HX0 HY0 HB HSR
  cases qc with
  | false =>
    go_wp2_with fail
    go_ret
    refine ⟨congrArg (fun b => Ending.returned (Value.bool b)) ?_, HB1.out⟩
    rw [← HRES.out]
    simp
  | true =>
    by_cases hk : x.k = y.k
    · have hkb : (x.k != y.k) = false := by simp [hk]
      have HK := Hid.mk hk
      clear hk
      by_cases hp : n.p = m.p
      · have hpb : (s1.toList == s2.toList) = true := by rw [HSP.out, decide_eq_true hp]
        by_cases hv : n.v = m.v
        · have hvb : (s3.toList == s4.toList) = true := by rw [HSV.out, decide_eq_true hv]
          by_cases hl : x.kn = y.kn
          · have hlb : ((x.kn : Int) != y.kn) = false := by rw [hl]; simp
            have HKL := Hid.mk hl
            have HP := Hid.mk hp
            have HV := Hid.mk hv
            clear hl hp hv
            go_wp2_with fail
            clear hkb hpb hvb hlb k1 k2 k3 k4 c0 c1 c2 d0 d1 d2
            go_loopw [6] (fun s6 u => ∃ j : Nat, j ≤ x.kn ∧ s6 = .int .i64 j ∧ (∀ (i : Nat) (r s : PR), i < j → n.ks[i]? = some r → m.ks[i]? = some s → reqP r s = true) ∧ NBx w.heap.size u x ∧ NBx (w.heap.size + 1) u y ∧ Below w.heap.size w u) (fun s6 _ => x.kn - (intOf s6).toNat)
            case atStart => exact ⟨0, by omega, rfl, fun i r s h => by omega, HX1'.out, HY1'.out, HB1.out⟩
            case round =>
              obtain ⟨j, hj, rfl, hall, XR, YR, hbr⟩ := hrel
              have e37 := XR.c37
              have HALL := Hid.mk hall
              have HXR := Hid.mk XR
              have HYR := Hid.mk YR
              have HBR := Hid.mk hbr
              clear hall XR YR hbr c37 d37
              by_cases hlt : j < x.kn
              · have hji : (j : Int) < x.kn := by omega
                obtain ⟨r, hr⟩ : ∃ r, n.ks[j]? = some r := ⟨_, List.getElem?_eq_getElem (by have := HX1.out; omega)⟩
                obtain ⟨s, hs⟩ : ∃ s, m.ks[j]? = some s := ⟨_, List.getElem?_eq_getElem (by have := HY1.out; have := HKL.out; omega)⟩
                obtain ⟨g1, o1, z1, hka, _, hrg1, hz1⟩ := HX.out.ks j r hr
                obtain ⟨g2, o2, z2, hkb, _, hrg2, hz2⟩ := HY.out.ks j s hs
                have HXA := Hid.mk hka
                have HYA := Hid.mk hkb
                have HRG1 := Hid.mk hrg1
                have HRG2 := Hid.mk hrg2
                have HZ1 := Hid.mk hz1
                have HZ2 := Hid.mk hz2
                have HL1 := Hid.mk hz1.len
                have HL2 := Hid.mk hz2.len
                obtain ⟨q, hq⟩ : ∃ q, reqP r s = q := ⟨_, rfl⟩
                have HQ := Hid.mk hq
                have HR := Hid.mk hr
                have HS := Hid.mk hs
                have HSC := Hid.mk (show ∀ w', Below wr.drew.heap.size wr.drew w' → NBx w.heap.size w' x ∧ NBx (w.heap.size + 1) w' y ∧ Below w.heap.size w w' from fun w' hb => ⟨HXR.out.go (below_go (Below.refl _ _).drew hb), HYR.out.go (below_go (Below.refl _ _).drew hb), below_go HBR.out.drew hb⟩)
                clear hr hs hka hkb hrg1 hrg2 hz1 hz2 hq
                go_upto_region 7 with fail
                rename_i KK hkk
                refine wp_region_held_drew (S := fun v' => NBx w.heap.size v' x ∧ NBx (w.heap.size + 1) v' y ∧ Below w.heap.size w v') (by kernel_rfl) ⟨⟨HXR.out.row, HXR.out.l⟩, ⟨HYR.out.row, HYR.out.l⟩, HBR.out.drew⟩ (fun hS => ?_)
                refine rd_take 0 56 (.pointer (some ⟨w.heap.size, 37, none⟩)) rfl rfl (by kernel_rfl) (by kernel_rfl) (by kernel_rfl) (fun _ _ _ h => h) (by kernel_rfl) (fun v _ => by kernel_rfl) hS ?_
                refine rd_take 1 57 (.slice (some ⟨g1, o1, none⟩) x.kn x.kc) rfl rfl (by kernel_rfl) (by kernel_rfl) (by kernel_rfl) (fun _ _ _ h => h) (by kernel_rfl) (fun v' hv => rd_loadK rfl (by kernel_rfl) (by rw [← HXA.out]; exact hv.1.c37)) hS ?_
                refine rd_take 2 58 (.int .i64 j) rfl rfl (by kernel_rfl) (by kernel_rfl) (by kernel_rfl) (fun _ _ _ h => h) (by kernel_rfl) (fun v _ => by kernel_rfl) hS ?_
                refine rd_take 3 59 (.pointer (some ⟨g1, o1 + j * 34, none⟩)) rfl rfl (by kernel_rfl) (by kernel_rfl) (by kernel_rfl) (fun _ _ _ h => h) (by kernel_rfl) (fun v' _ => rd_indexR (m := x.kn) (c := x.kc) rfl (by kernel_rfl) (by kernel_rfl) hlt) hS ?_
                refine rd_take 4 60 (.agg z1.cells.toArray) rfl rfl (by kernel_rfl) (by kernel_rfl) (by kernel_rfl) (fun _ _ _ h => h) (by kernel_rfl) (fun v' hv => rd_loadRr rfl (by kernel_rfl) HL1.out (range_keep HRG1.out (fun hl => hv.2.2.block g1 hl))) hS ?_
                refine rd_take 5 61 (.pointer (some ⟨w.heap.size + 1, 37, none⟩)) rfl rfl (by kernel_rfl) (by kernel_rfl) (by kernel_rfl) (fun _ _ _ h => h) (by kernel_rfl) (fun v _ => by kernel_rfl) hS ?_
                refine rd_take 6 62 (.slice (some ⟨g2, o2, none⟩) y.kn y.kc) rfl rfl (by kernel_rfl) (by kernel_rfl) (by kernel_rfl) (fun _ _ _ h => h) (by kernel_rfl) (fun v' hv => rd_loadK rfl (by kernel_rfl) (by rw [← HYA.out]; exact hv.2.1.c37)) hS ?_
                refine rd_take 7 63 (.int .i64 j) rfl rfl (by kernel_rfl) (by kernel_rfl) (by kernel_rfl) (fun _ _ _ h => h) (by kernel_rfl) (fun v _ => by kernel_rfl) hS ?_
                refine rd_take 8 64 (.pointer (some ⟨g2, o2 + j * 34, none⟩)) rfl rfl (by kernel_rfl) (by kernel_rfl) (by kernel_rfl) (fun _ _ _ h => h) (by kernel_rfl) (fun v' _ => rd_indexR (m := y.kn) (c := y.kc) rfl (by kernel_rfl) (by kernel_rfl) (by have := HKL.out; omega)) hS ?_
                refine rd_take 9 65 (.agg z2.cells.toArray) rfl rfl (by kernel_rfl) (by kernel_rfl) (by kernel_rfl) (fun _ _ _ h => h) (by kernel_rfl) (fun v' hv => rd_loadRr rfl (by kernel_rfl) HL2.out (range_keep HRG2.out (fun hl => hv.2.2.block g2 hl))) hS ?_
                refine wpAnyH_ready (rs := [10]) (by kernel_rfl) (by simp) ?_
                refine rd_call 10 66 rfl rfl (by kernel_rfl) 20 #[.agg z1.cells.toArray, .agg z2.cells.toArray] (by kernel_rfl) (R := fun val w' => Below wr.drew.heap.size wr.drew w' ∧ val = .bool q) ((sameRef_any K L z1 z2 r s wr.drew (HZ1.out.go (Keep.below hS.2.2)) (HZ2.out.go (Keep.below hS.2.2))).mono (fun e w' h => ⟨_, h.1, h.2, by rw [HQ.out]⟩)) (fun val w' h => HSC.out w' h.1) ?_ AllReadyH.nil
                rintro val w2 ⟨hb2, rfl⟩
                have hS2 := HSC.out w2 hb2
                refine rd_take 11 7 (.bool q) rfl rfl (by kernel_rfl) (by kernel_rfl) (by kernel_rfl) (fun _ _ _ h => h) (by kernel_rfl) (fun v _ => by kernel_rfl) hS2 ?_
                refine wpAnyH_done (by kernel_rfl) ?_ _
                refine hkk _ _ ?_
                have HS2 := Hid.mk hS2
                clear hS2 hb2 hS hkk
                go_frame
                cases q with
                | false =>
                  go_wp2_with fail
                  go_ret
                  refine ⟨congrArg (fun b => Ending.returned (Value.bool b)) ?_, HS2.out.2.2⟩
                  rw [← HRES.out, kseq_no HR.out HS.out HQ.out]
                  simp
                | true =>
                  go_wp2_with fail
                  exact ⟨⟨j + 1, by omega, by simp, fun i r' s' hi h1 h2 => by
                    by_cases e : i = j
                    · subst e
                      rw [HR.out] at h1; rw [HS.out] at h2; cases h1; cases h2; exact HQ.out
                    · exact HALL.out i r' s' (by omega) h1 h2, HS2.out.1, HS2.out.2.1, HS2.out.2.2⟩, by simp [intOf]; omega⟩
              · have hji : ¬ (j : Int) < x.kn := by omega
                have hyes : kseq n.ks m.ks = true := kseq_all (by rw [← HX1.out, ← HY1.out]; exact HKL.out) fun i r s h1 h2 => HALL.out i r s (by have := (List.getElem?_eq_some_iff.1 h1).1; have := HX1.out; omega) h1 h2
                have HYES := Hid.mk hyes
                clear hyes
                go_wp2_with fail
                go_ret
                refine ⟨congrArg (fun b => Ending.returned (Value.bool b)) ?_, HBR.out⟩
                rw [← HRES.out, HYES.out, HK.out, HP.out, HV.out, HKL.out]
                simp
          · have hlb : ((x.kn : Int) != y.kn) = true := by rw [bne_iff_ne]; omega
            have HL := Hid.mk hl
            clear hl hp hv
            go_wp2_with fail
            go_ret
            refine ⟨congrArg (fun b => Ending.returned (Value.bool b)) ?_, HB1.out⟩
            rw [← HRES.out]
            simp [HL.out]
        · have hvb : (s3.toList == s4.toList) = false := by rw [HSV.out, decide_eq_false hv]
          have HV := Hid.mk hv
          clear hp hv
          go_wp2_with fail
          go_ret
          refine ⟨congrArg (fun b => Ending.returned (Value.bool b)) ?_, HB1.out⟩
          rw [← HRES.out]
          simp [HV.out]
      · have hpb : (s1.toList == s2.toList) = false := by rw [HSP.out, decide_eq_false hp]
        have HP := Hid.mk hp
        clear hp
        go_wp2_with fail
        go_ret
        refine ⟨congrArg (fun b => Ending.returned (Value.bool b)) ?_, HB1.out⟩
        rw [← HRES.out]
        simp [HP.out]
    · have hkb : (x.k != y.k) = true := by simp [hk]
      have hkb2 : (x.k == y.k) = false := by simp [hk]
      have HK := Hid.mk hk
      clear hk
      go_wp2_with fail
      go_ret
      refine ⟨congrArg (fun b => Ending.returned (Value.bool b)) ?_, HB1.out⟩
      rw [← HRES.out]
      simp [HK.out]
end Go.Proofs.Ytamibjgahcpkcaa

/- What the document's Encode answers. -/
import Derived.Test.YtefhepcplempkaaGreatG25
import Derived.Test.YtefhepcplempkaaGreatG12
import Derived.Test.YtefhepcplempkaaGreatG02
import Derived.Test.YtefhepcplempkaaGreatG11
import Derived.Test.YtefhepcplempkaaGreatG23
import Derived.Test.YtefhepcplempkaaGreatG20
import Derived.Test.YtefhepcplempkaaGreatG19
import Derived.Deep.RegionLaw
set_option linter.unusedVariables false
set_option maxRecDepth 100000
namespace Go.Proofs.YtefhepcplempkaaGreat
open Go.RowKit
theorem Zsy {l : Bool} {bs : List Int} {its : List T} (h : (wk (.mk l bs its) 0 0).2 = 0) : bs.length ≤ 16777215 ∧ szs its ≤ 167772150 ∧ rszs its ≤ szs its ∧ Like (rszs its) (szs its) := by
  have hf := Zha _ 0 0 h
  obtain ⟨h1, h2, h3, h4⟩ := Zpz h
  have hw := Zci h2
  have hb : bs.length ≤ 16777215 := by
    cases l with
    | true => have e : bs = [] := by simpa using hw
              rw [e]; simp
    | false => unfold wt at h3; simp at h3; omega
  have hfs : forms its = true := by
    cases l with
    | true => exact (Zcn hf).2
    | false => rw [Zb3 hf, Zce]
  have hk := Zfb fun t ht => Zm9 t (Zbh hfs t ht)
  rw [h4] at h
  obtain ⟨W, hW⟩ : ∃ W, wks its 1 (0 + wt l bs 0) = (W, 0) := ⟨(wks its 1 (0 + wt l bs 0)).1, Prod.ext rfl h⟩
  have hbd := Zg9 (by omega) h3 hW
  exact ⟨hb, by omega, Zvx hfs, hk⟩
set_option maxHeartbeats 4000000 in
theorem Zhm (t : T) (x : V) (w : World) (hx : Lies w t x) :
  Calls Tryz.prog 88 #[.agg #[.bool x.l, .slice x.ba x.bn x.bc, .slice x.ia x.m x.ic]] w fun e w' => (∃ a n c, e = .returned (.tuple #[.slice a n c, .int .i64 ((encP t).2 : Nat)]) /\ Ag w' a n c (encP t).1 /\ (x.l = true -> Nw w.heap.size a)) /\ Below w.heap.size w w' := by
 obtain ⟨l, bs, its⟩ := t
 have HBN := Hid.mk (below_new w (.cells #[.bool x.l, .slice x.ba x.bn x.bc, .slice x.ia x.m x.ic] 109))
 have HBX := Hid.mk (Zcq w x)
 have HX := Hid.mk (Zay HBN.out _ x hx)
 have xm := (lies_eq.1 hx).2.2.1
 have xm2 := (lies_eq.1 hx).2.2.2.2.2.1.2
 have hbl := (lies_eq.1 hx).2.1.l
 have HXM := Hid.mk xm
 have hcal := Zsz (.mk l bs its) x _ 0 0 HX.out (by omega) (by omega)
 rw [show ((0 : Nat) : Int) = 0 from rfl] at hcal
 obtain ⟨⟨ww, er⟩, hwk⟩ : ∃ r, wk (.mk l bs its) 0 0 = r := ⟨_, rfl⟩
 rw [hwk] at hcal
 simp only at hcal
 by_cases her : er = 0
 case neg =>
  have hm : mP (.mk l bs its) = (0, er) := by unfold mP; rw [hwk, if_pos (by simpa using her)]
  have he : encP (.mk l bs its) = ([], er) := by unfold encP; rw [hm, if_neg (by simpa using her)]
  rw [he]
  have hee : ((er : Int) != 0) = true := by rw [bne_iff_ne]; omega
  have HC := Hid.mk hcal
  clear hcal hm he hx hwk xm hbl xm2
  go_enter Tryz.func88, Tryz.ntmps88
  go_wp2_with fail
  refine HC.out.mono ?_
  rintro e w1 ⟨rfl, hb1⟩
  have HB1 := Hid.mk (below_go HBN.out hb1)
  clear hb1 HC
  go_wp2_with fail
  go_ret2
  exact ⟨⟨none, 0, 0, rfl, ag_nil _, fun _ g off h => by cases h⟩, HB1.out⟩
 subst her
 rw [show ((0 : Nat) : Int) = 0 from rfl] at hcal
 have h0 : (wk (.mk l bs its) 0 0).2 = 0 := by rw [hwk]
 obtain ⟨s1, s2, s3, s4⟩ := Zsy h0
 have hfs : forms its = true := by
  have hf := Zha _ 0 0 h0
  cases l with
  | true => exact (Zcn hf).2
  | false => rw [Zb3 hf, Zce]
 have hmP : mP (.mk l bs its) = if 16777215 < bs.length + szs its then (0, 20) else (sz (.mk l bs its), 0) := by unfold mP; rw [if_neg (by rw [h0]; simp)]; rfl
 have hN : (16777215 < bs.length + szs its) ↔ (16777215 < bs.length + rszs its) := by unfold Like at s4; omega
 have hbody : (bodyOf (.mk l bs its)).length = bs.length + szs its := by rw [<- Zhg (Zha _ 0 0 h0)]; rfl
 obtain ⟨E, hE⟩ : ∃ E, encP (.mk l bs its) = E := ⟨_, rfl⟩
 rw [hE]
 have HEE : Hid (encP (.mk l bs its) = E) := Hid.mk hE
 have HMP := Hid.mk hmP
 have HN := Hid.mk hN
 have HBO := Hid.mk hbody
 have HFS := Hid.mk hfs
 have HC := Hid.mk hcal
 obtain ⟨xl, xba, xbn, xbc, xia, xm', xic⟩ := x
 simp only at xm2 hbl HBX HBN HX HXM HC
 have HBL := Hid.mk hbl
 obtain ⟨LB, hLB⟩ : ∃ LB, bs.length = LB := ⟨_, rfl⟩
 have hLx : LB = xbn := by omega
 subst hLx
 clear hcal hE hmP hN hbody hfs hx hwk h0 xm s4 hbl
 have HLB := Hid.mk hLB
 rw [hLB] at s1 HMP HN HBO
 clear hLB
 go_enter Tryz.func88, Tryz.ntmps88
 go_wp2_with fail
 refine HC.out.mono ?_
 rintro e w1 ⟨rfl, hb1⟩
 obtain ⟨c0, c1, c2⟩ := HBX.out.go hb1
 simp only at c0 c1 c2
 have HB1 := Hid.mk (below_go HBN.out hb1)
 have HX1 := Hid.mk (Zay hb1 _ _ HX.out)
 have HBX1 := Hid.mk (HBX.out.go hb1)
 clear hb1 HC HBX HX
 go_wp2_with fail
 go_loopw [6, 7] (fun p q v => ∃ u : Nat, u <= xm' /\ q = .int .i64 u /\ p = .int .i64 (LB + rszs (its.take u) : Nat) /\ Below w1.heap.size w1 v) (fun _ q _ => xm' - (intOf q).toNat)
 case atStart => exact ⟨0, by omega, rfl, by rw [List.take_zero, Zds]; rfl, Below.refl _ _⟩
 case round =>
  clear c0 c1 c2
  obtain ⟨u, hu, rfl, rfl, hbv⟩ := hrel
  obtain ⟨d0, d1, d2⟩ := HBX1.out.go hbv
  simp only at d0 d1 d2
  have HBV := Hid.mk hbv
  clear hbv
  by_cases hlt : u < xm'
  ·have hui : (u : Int) < xm' := by omega
   obtain ⟨t, ht⟩ : ∃ t, its[u]? = some t := ⟨its[u]'(by have := HXM.out; omega), List.getElem?_eq_getElem _⟩
   obtain ⟨g, off, y, A⟩ := Zb0 (lies_eq.1 HX1.out).2.2.2.2.2.2 u t ht
   rw [Nat.zero_add] at A
   have ha : xia = some ⟨g, off, none⟩ := A.ha
   subst ha
   have y0 := Zaf HBV.out A.c0
   have y1 := Zaf HBV.out A.c1
   have y2 := Zaf HBV.out A.c2
   have hmem := List.mem_of_getElem? ht
   have hmore := Zk1 ht
   have hle := Zk0 (its := its) (u + 1)
   have hcal := Zs8 t y wr (Zay HBV.out t y A.li) (Zbh HFS.out t hmem) (by omega)
   obtain ⟨r1, hr1⟩ : ∃ r1, LB + rszs (its.take u) = r1 := ⟨_, rfl⟩
   obtain ⟨r2, hr2⟩ : ∃ r2, rsz t = r2 := ⟨_, rfl⟩
   have hmo : LB + rszs (its.take (u + 1)) = r1 + r2 := by omega
   rw [hr1]
   rw [hr2] at hcal
   have HC := Hid.mk hcal
   have HMO := Hid.mk hmo
   have hb1 : r1 + r2 <= 1000000000000 := by omega
   clear hcal ht A hmem hmore hle hr1 hr2 hmo
   go_wp2_with fail
   refine HC.out.mono ?_
   rintro e w2 ⟨rfl, hb2⟩
   have HB2 := Hid.mk (below_go HBV.out hb2)
   clear hb2
   go_wp2_with fail
   exact ⟨⟨u + 1, by omega, by simp, by rw [HMO.out]; simp, HB2.out⟩, by simp [intOf]; omega⟩
  ·have hui : ¬ (u : Int) < xm' := by omega
   have htk : its.take u = its := List.take_of_length_le (by rw [<- HXM.out]; omega)
   rw [htk]
   have hn := HN.out
   have hmp := HMP.out
   have hbo := HBO.out
   obtain ⟨S0, hS0⟩ : ∃ S0, LB + rszs its = S0 := ⟨_, rfl⟩
   rw [hS0] at hn ⊢
   clear htk
   by_cases hmax : 16777215 < S0
   ·have hmi : (S0 : Int) > 16777215 := by omega
    rw [if_pos (hn.2 hmax)] at hmp
    have he : E = ([], 20) := by rw [<- HEE.out]; unfold encP; rw [hmp, if_neg (by decide)]
    subst he
    clear hn hmp hbo hS0
    go_wp2_with fail
    go_ret2
    exact ⟨⟨none, 0, 0, rfl, ag_nil _, fun _ g off h => by cases h⟩, below_go HB1.out HBV.out⟩
   ·have hmi : ¬ (S0 : Int) > 16777215 := by omega
    have hng : ¬ 16777215 < LB + szs its := fun h => hmax (hn.1 h)
    rw [if_neg hng] at hmp
    have he : E = (enc (.mk l bs its), 0) := by rw [<- HEE.out]; unfold encP; rw [hmp, if_pos rfl]
    subst he
    have hcal := Zow (.mk l bs its) _ wr (Zay HBV.out _ _ HX1.out) (by omega)
    have HC := Hid.mk hcal
    clear hn hmp hbo hS0 hcal
    go_wp2_with fail
    refine HC.out.mono ?_
    rintro e w2 ⟨⟨a2, n2, c2, rfl, hag2, hnw⟩, hb2⟩
    have HNW := Hid.mk (fun h => (hnw h).mono (Nat.le_trans HB1.out.size HBV.out.size))
    have HA2 := Hid.mk hag2
    have HB2 := Hid.mk (below_go HBV.out hb2)
    clear hag2 hb2 hnw
    go_wp2_with fail
    go_ret2
    exact ⟨⟨a2, n2, c2, rfl, HA2.out, HNW.out⟩, below_go HB1.out HB2.out⟩
section
variable {a : Act} {w : World}
theorem Zgx {x : Operand} {p : Addr} {v : Value} {o : Oper} (ho : o.op = .load 66 x) (hx : a.eval x = .pointer (some p)) (hc : w.cell? p = some v) : (execOp a.eval o).run Tryz.prog w = .ok (.value v) w := by
 unfold execOp
 rw [ho]
 simp only [hx]
 go_simp
theorem Zqo {x y : Operand} {g off j m c : Nat} {o : Oper} (ho : o.op = .indexAddr 66 x y) (hx : a.eval x = .slice (some ⟨g, off, none⟩) m c) (hy : a.eval y = .int .i64 j) (hj : j < m) : (execOp a.eval o).run Tryz.prog w = .ok (.value (.pointer (some ⟨g, off + j * 34, none⟩))) w := by
 have hji : (j : Int) < m := by omega
 unfold execOp
 rw [ho]
 simp only [hx, hy]
 go_simp
end
section
variable {a : Act} {w : World}
theorem Zdi {x : Operand} {o : Oper} (ho : o.op = .buildSlice 107 1 #[(0, x)]) (p : V) (hx : a.eval x = .agg #[.bool p.l, .slice p.ba p.bn p.bc, .slice p.ia p.m p.ic]) :
  (execOp a.eval o).run Tryz.prog w = .ok (.value (.slice (some ⟨w.heap.size, 0, none⟩) 1 1)) (w.alloc (.cells #[.bool p.l, .slice p.ba p.bn p.bc, .slice p.ia p.m p.ic] 109)) := by
 unfold execOp
 rw [ho]
 simp only [List.map_toArray, List.map_cons, List.map_nil, hx]
 go_simp
theorem Zf0 {w' : World} {s x : Operand} {o : Oper} (ho : o.op = .call { callee := .builtin .append, args := #[s, x], argTypes := #[107, 107] }) (v u : Value) (hd : a.eval s = v) (hx : a.eval x = u) {v' : Value}
  (hr : (Builtin.append_ #[107, 107] o.type #[v, u]).run Tryz.prog w = .ok v' w') : (execOp a.eval o).run Tryz.prog w = .ok (.value v') w' := by
 simp [execOp, ho, resolve, invoke, builtin, hd, hx, hr, Result.andThen]
theorem Zdh {x y : Operand} {o : Oper} (ho : o.op = .store 107 x y) (g : Nat) (it old : Value) (h1 : ∃ ia m ic, it = .slice ia m ic) (hx : a.eval x = .pointer (some ⟨g, 2, none⟩)) (hy : a.eval y = it) (hc : w.cell? ⟨g, 2, none⟩ = some old) (hf : ∀ o, w.frozen? ⟨g, o, none⟩ = false) :
  (execOp a.eval o).run Tryz.prog w = .ok .skip (w.setCell ⟨g, 2, none⟩ it) := by
 obtain ⟨ia, m, ic, rfl⟩ := h1
 unfold execOp
 rw [ho]
 simp only [hx, hy]
 go_simp
end
theorem So.one {gI : Nat} {v : World} {it : Value} {ts : List T} (h : So gI v it ts) : ∃ ia m ic, it = .slice ia m ic := by
 obtain ⟨ia, ic, e, _⟩ := h.full (w := v)
 exact ⟨ia, _, ic, e⟩
def EEPost (w : World) (n : PN) : Ending -> World -> Prop := fun e w' => (∃ a m c, e = .returned (.tuple #[.slice a m c, .int .i64 (if NR n = true then 0 else 50)]) /\ Ag w' a m c (if NR n = true then NE n else []) /\ Nw w.heap.size a) /\ Below w.heap.size w w'
theorem Zfp {gI : Nat} {w u : World} {it : Value} {TS : List T} {n : PN} (hF : Full gI w u it TS) (hlen : TS.length <= 1000) (ht : .mk true [] TS = itemP n) (hb : (mP (itemP n)).2 = 0) :
  ∃ ia m ic, it = .slice ia m ic /\ Calls Tryz.prog 88 #[.agg #[.bool true, .slice none 0 0, .slice ia m ic]] u fun e w' => (∃ a m c, e = .returned (.tuple #[.slice a m c, .int .i64 0]) /\ Ag w' a m c (NE n) /\ Nw u.heap.size a) /\ Below u.heap.size u w' := by
 obtain ⟨ia, ic, rfl, f1, f2, f3⟩ := hF
 refine ⟨ia, _, ic, rfl, (Zhm (.mk true [] TS) ⟨true, none, 0, 0, ia, TS.length, ic⟩ u (lies_eq.2 ⟨rfl, ⟨.inl ⟨rfl, rfl⟩, fun _ => ⟨rfl, rfl⟩, rfl, fun x hx => by cases hx⟩, rfl, f1, f2, ⟨Nat.zero_le _, by show TS.length <= _; omega⟩, f3⟩)).mono ?_⟩
 rw [ht, Zeo hb]
 rintro e w' ⟨⟨a, m, c, e1, e2, e4⟩, e3⟩
 exact ⟨⟨a, m, c, e1, e2, e4 rfl⟩, e3⟩
theorem En.drew {w v : World} {x : NV} {gI : Nat} {it : Value} (h : En w v x gI it) : En w v.drew x gI it := h.all (Below.refl _ _).drew
theorem Zxa {n : PN} (h : NR n = true) (h3 : n.k = 3) : n.ks.length = 16 := by
 unfold NR nright rkidsP at h
 by_cases h16 : n.ks.length = 16
 ·exact h16
 ·simp [h3, h16] at h
set_option maxHeartbeats 8000000 in
theorem Ztc (K : Nat -> Prop) (x : NV) (n : PN) (w : World) (h : NodeAt K w x n) (h3 : n.k = 3) (hd : ∀ r, (r = n.c \/ r ∈ n.ks) -> r.i.length < 32 -> DDSaid r.i) :
  Calls Tryz.prog 59 #[.agg x.cells.toArray] w (EEPost w n) := by
 have B := Zcp w x h.c.len
 have HB := Hid.mk (below_new w (.cells x.cells.toArray 68))
 have HH := Hid.mk h
 obtain ⟨q, hq⟩ : ∃ q, NR n = q := ⟨_, rfl⟩
 have HR1 := Hid.mk (show ∀ v, Below w.heap.size w v -> Calls Tryz.prog 85 #[.agg x.cells.toArray] v fun e w' => e = .returned (.bool q) /\ Below v.heap.size v w' from fun v hv => by
  rw [<- hq]; exact Zfh K x n v (h.go (Keep.below hv)) hd)
 have HQ := Hid.mk hq
 have hk3 : x.k = 3 := by rw [h.k]; exact h3
 have hvn := h.v.2.1
 unfold EEPost
 rw [hq]
 have H3 := Hid.mk h3
 clear h hq hd h3
 go_enter Tryz.func59, Tryz.ntmps59
 go_upto_region 1 with fail
 refine gen_w (p := fun v => Code.wp _ _ _ _ v) (q := fun v => NBx w.heap.size v x /\ Below w.heap.size w v) ⟨B, HB.out⟩ ?_
 clear B HB
 rintro v ⟨B, hb⟩
 have HB := Hid.mk hb
 have HX := Hid.mk B
 clear hb B
 go_wp2_with (first | refine Za8 rfl _ rfl w.heap.size rfl x HX.out ?_)
 refine (HR1.out v HB.out).mono ?_
 rintro e w1 ⟨rfl, hb1⟩
 have HX1 := Hid.mk (HX.out.go hb1)
 have HB1 := Hid.mk (below_go HB.out hb1)
 clear hb1 HX HB
 cases q with
 | false =>
  go_wp2_with fail
  go_ret2
  exact ⟨⟨none, 0, 0, rfl, ⟨.inl ⟨rfl, rfl⟩, fun _ => ⟨rfl, rfl⟩, rfl, fun x hx => by cases hx⟩, fun g off h => by cases h⟩, HB1.out⟩
 | true =>
  obtain ⟨b1, b2, b3⟩ := Zc1 HH.out.okN HQ.out
  have HM := Hid.mk b1
  have hks := Zxa HQ.out H3.out
  have HKS := Hid.mk hks
  have H16 := Hid.mk (show x.kn = 16 from by rw [HH.out.m.1]; exact hks)
  have HLT := Hid.mk (show w.heap.size < w1.heap.size from (Array.getElem?_eq_some_iff.1 HX1.out.row).1)
  clear b1 b2 b3 hks
  go_upto_region 5 with fail
  obtain ⟨gI, hgI⟩ : ∃ gI, w1.heap.size = gI := ⟨_, rfl⟩
  refine gen_w (p := fun v => Code.wp _ _ _ _ v) (q := fun v => En w v x gI (.slice none 0 0)) ⟨by rw [<- hgI]; exact heap_alloc_new _ _, HX1.out.go (below_new _ _), below_go HB1.out (below_new _ _), by rw [<- hgI]; exact HLT.out, by simp [hgI]⟩ ?_
  intro v2 E2
  rw [hgI]
  have c0 := E2.bx.c0
  rw [hk3] at c0
  have HE2 := Hid.mk E2
  clear E2 HX1 HB1 HLT hgI
  go_wp2_with fail
  go_loopw [6] (fun s6 u => ∃ (j : Nat) (it : Value), j <= 16 /\ s6 = .int .i64 j /\ En w u x gI it /\ So gI u it ((n.ks.take j).map refItemP)) (fun s6 _ => 16 - (intOf s6).toNat)
  case atStart => exact ⟨0, _, by omega, rfl, HE2.out, Zxm _ _⟩
  case round =>
   obtain ⟨j, it, hj, rfl, hE, hSO⟩ := hrel
   have HE := Hid.mk hE
   have HSO := Hid.mk hSO
   clear hE hSO HE2 c0
   by_cases hlt : j < 16
   ·have hji : (j : Int) < 16 := by omega
    obtain ⟨r, hr⟩ : ∃ r, n.ks[j]? = some r := ⟨_, List.getElem?_eq_getElem (by rw [HKS.out]; exact hlt)⟩
    obtain ⟨g, off, y, hka, _, hrg, hy⟩ := HH.out.ks j r hr
    have HKA := Hid.mk hka
    have HRG := Hid.mk hrg
    have HL := Hid.mk hy.len
    have HY := Hid.mk hy
    have HR := Hid.mk hr
    clear hrg hy hr hka
    go_upto_region 9 with fail
    rename_i KK hkk
    refine wp_region_held_drew (S := fun v' => NBx w.heap.size v' x /\ Below w.heap.size w v') (by kernel_rfl) ⟨⟨HE.out.bx.row, HE.out.bx.l⟩, HE.out.bel.drew⟩ (fun hS => ?_)
    have hE0 := HE.out.drew
    refine Zal 0 23 (.pointer (some ⟨gI, 2, none⟩)) rfl rfl (by kernel_rfl) (by kernel_rfl) (by kernel_rfl) (fun _ _ _ h => h) (by kernel_rfl) (fun v _ => by kernel_rfl) hS <| Zal 2 25 (.pointer (some ⟨w.heap.size, 37, none⟩)) rfl rfl (by kernel_rfl) (by kernel_rfl) (by kernel_rfl) (fun _ _ _ h => h) (by kernel_rfl) (fun v _ => by kernel_rfl) hS <| Zal 3 26 (.slice (some ⟨g, off, none⟩) 16 x.kc) rfl rfl (by kernel_rfl) (by kernel_rfl) (by kernel_rfl) (fun _ _ _ h => h) (by kernel_rfl) (fun v' hv => Zgx rfl (by kernel_rfl) (by rw [<- HKA.out, <- H16.out]; exact hv.1.c37)) hS <| Zal 4 27 (.int .i64 j) rfl rfl (by kernel_rfl) (by kernel_rfl) (by kernel_rfl) (fun _ _ _ h => h) (by kernel_rfl) (fun v _ => by kernel_rfl) hS <| Zal 5 28 (.pointer (some ⟨g, off + j * 34, none⟩)) rfl rfl (by kernel_rfl) (by kernel_rfl) (by kernel_rfl) (fun _ _ _ h => h) (by kernel_rfl) (fun v' _ => Zqo (m := 16) (c := x.kc) rfl (by kernel_rfl) (by kernel_rfl) hlt) hS <| Zal 6 29 (.agg y.cells.toArray) rfl rfl (by kernel_rfl) (by kernel_rfl) (by kernel_rfl) (fun _ _ _ h => h) (by kernel_rfl) (fun v' hv => Zd7 rfl (by kernel_rfl) HL.out (Zbr HRG.out (fun hl => hv.2.block g hl))) hS <| wpAnyH_ready (rs := [1, 7]) (by kernel_rfl) (by simp) ?_
    refine Zba 1 24 it rfl rfl (by kernel_rfl) (Zbe rfl (by kernel_rfl) hE0.c2) hS ?_ ?_
    ·refine wpAnyH_ready (rs := [7]) (by kernel_rfl) (by simp) ?_
     refine Zcd 7 30 rfl rfl (by kernel_rfl) 86 #[.agg y.cells.toArray] (by kernel_rfl) (R := fun val w' => Below wr.drew.heap.size wr.drew w' /\ ∃ z : V, val = .agg #[.bool z.l, .slice z.ba z.bn z.bc, .slice z.ia z.m z.ic] /\ LiesP (fun b => wr.drew.heap.size <= b) w' (refItemP r) z) ((Zfd K y r wr.drew (HY.out.go (Keep.below hS.2))).mono (fun e w' h => Zbx h (Nat.le_refl _))) (fun val w' h => ⟨hS.1.go h.1, below_go hS.2 h.1⟩) ?_ AllReadyH.nil
     rintro val u1 ⟨hb1, z, rfl, hz⟩
     have hS1 : NBx w.heap.size u1 x /\ Below w.heap.size w u1 := ⟨hS.1.go hb1, below_go hS.2 hb1⟩
     have hE1 := hE0.all hb1
     obtain ⟨v', w3, hrun, hso3, hb3⟩ := Zuo hE0.sz (HSO.out.all (Below.refl _ _).drew) hb1 hz (by rw [List.length_map, List.length_take]; omega) 107
     have hE2 : En w (u1.alloc (.cells #[.bool z.l, .slice z.ba z.bn z.bc, .slice z.ia z.m z.ic] 109)) x gI it := hE1.all (below_new _ _)
     have hE3 := hE0.go hb3
     have hE4 := hE3.put v'
     have hSO4 := hso3.put v'
     refine wpAnyH_ready (rs := [8]) (by kernel_rfl) (by simp) ?_
     refine Zba 8 31 (.slice (some ⟨u1.heap.size, 0, none⟩) 1 1) rfl rfl (by kernel_rfl) (Zdi rfl z (by kernel_rfl)) ⟨hE2.bx, hE2.bel⟩ ?_ AllReadyH.nil
     refine wpAnyH_ready (rs := [9]) (by kernel_rfl) (by simp) ?_
     refine Zba 9 32 v' rfl rfl (by kernel_rfl) (Zf0 rfl it (.slice (some ⟨u1.heap.size, 0, none⟩) 1 1) (by kernel_rfl) (by kernel_rfl) hrun) ⟨hE3.bx, hE3.bel⟩ ?_ AllReadyH.nil
     refine Zal 10 33 (.pointer (some ⟨gI, 2, none⟩)) rfl rfl (by kernel_rfl) (by kernel_rfl) (by kernel_rfl) (fun _ _ _ h => h) (by kernel_rfl) (fun v _ => by kernel_rfl) ⟨hE3.bx, hE3.bel⟩ <| wpAnyH_ready (rs := [11]) (by kernel_rfl) (by simp) ?_
     refine Zbu 11 rfl rfl (by kernel_rfl) (Zdh rfl gI v' it hso3.one (by kernel_rfl) (by kernel_rfl) hE3.c2 hE3.fz) ⟨hE4.bx, hE4.bel⟩ ?_ AllReadyH.nil
     refine wpAnyH_done (by kernel_rfl) ?_ _
     refine hkk _ _ ?_
     have HE4 := Hid.mk hE4
     have HSO4 := Hid.mk (show So gI (w3.setCell ⟨gI, 2, none⟩ v') v' ((n.ks.take (j + 1)).map refItemP) from by rw [Zbq HR.out, List.map_append]; exact hSO4)
     clear hE4 hSO4 hE3 hE2 hE1 hE0 hS hS1 hso3 hb3 hrun hz hb1 hkk
     go_frame
     go_wp2_with fail
     exact ⟨⟨j + 1, v', by omega, by simp, HE4.out, HSO4.out⟩, by simp [intOf]; omega⟩
    refine Zcd 7 30 rfl rfl (by kernel_rfl) 86 #[.agg y.cells.toArray] (by kernel_rfl) (R := fun val w' => Below wr.drew.heap.size wr.drew w' /\ ∃ z : V, val = .agg #[.bool z.l, .slice z.ba z.bn z.bc, .slice z.ia z.m z.ic] /\ LiesP (fun b => wr.drew.heap.size <= b) w' (refItemP r) z) ((Zfd K y r wr.drew (HY.out.go (Keep.below hS.2))).mono (fun e w' h => Zbx h (Nat.le_refl _))) (fun val w' h => ⟨hS.1.go h.1, below_go hS.2 h.1⟩) ?_ AllReadyH.nil
    rintro val u1 ⟨hb1, z, rfl, hz⟩
    have hS1 : NBx w.heap.size u1 x /\ Below w.heap.size w u1 := ⟨hS.1.go hb1, below_go hS.2 hb1⟩
    have hE1 := hE0.all hb1
    obtain ⟨v', w3, hrun, hso3, hb3⟩ := Zuo hE0.sz (HSO.out.all (Below.refl _ _).drew) hb1 hz (by rw [List.length_map, List.length_take]; omega) 107
    have hE2 : En w (u1.alloc (.cells #[.bool z.l, .slice z.ba z.bn z.bc, .slice z.ia z.m z.ic] 109)) x gI it := hE1.all (below_new _ _)
    have hE3 := hE0.go hb3
    have hE4 := hE3.put v'
    have hSO4 := hso3.put v'
    refine wpAnyH_ready (rs := [1, 8]) (by kernel_rfl) (by simp) ?_
    refine Zba 1 24 it rfl rfl (by kernel_rfl) (Zbe rfl (by kernel_rfl) hE1.c2) hS1 ?_ ?_
    ·refine wpAnyH_ready (rs := [8]) (by kernel_rfl) (by simp) ?_
     refine Zba 8 31 (.slice (some ⟨u1.heap.size, 0, none⟩) 1 1) rfl rfl (by kernel_rfl) (Zdi rfl z (by kernel_rfl)) ⟨hE2.bx, hE2.bel⟩ ?_ AllReadyH.nil
     refine wpAnyH_ready (rs := [9]) (by kernel_rfl) (by simp) ?_
     refine Zba 9 32 v' rfl rfl (by kernel_rfl) (Zf0 rfl it (.slice (some ⟨u1.heap.size, 0, none⟩) 1 1) (by kernel_rfl) (by kernel_rfl) hrun) ⟨hE3.bx, hE3.bel⟩ ?_ AllReadyH.nil
     refine Zal 10 33 (.pointer (some ⟨gI, 2, none⟩)) rfl rfl (by kernel_rfl) (by kernel_rfl) (by kernel_rfl) (fun _ _ _ h => h) (by kernel_rfl) (fun v _ => by kernel_rfl) ⟨hE3.bx, hE3.bel⟩ <| wpAnyH_ready (rs := [11]) (by kernel_rfl) (by simp) ?_
     refine Zbu 11 rfl rfl (by kernel_rfl) (Zdh rfl gI v' it hso3.one (by kernel_rfl) (by kernel_rfl) hE3.c2 hE3.fz) ⟨hE4.bx, hE4.bel⟩ ?_ AllReadyH.nil
     refine wpAnyH_done (by kernel_rfl) ?_ _
     refine hkk _ _ ?_
     have HE4 := Hid.mk hE4
     have HSO4 := Hid.mk (show So gI (w3.setCell ⟨gI, 2, none⟩ v') v' ((n.ks.take (j + 1)).map refItemP) from by rw [Zbq HR.out, List.map_append]; exact hSO4)
     clear hE4 hSO4 hE3 hE2 hE1 hE0 hS hS1 hso3 hb3 hrun hz hb1 hkk
     go_frame
     go_wp2_with fail
     exact ⟨⟨j + 1, v', by omega, by simp, HE4.out, HSO4.out⟩, by simp [intOf]; omega⟩
    refine Zba 8 31 (.slice (some ⟨u1.heap.size, 0, none⟩) 1 1) rfl rfl (by kernel_rfl) (Zdi rfl z (by kernel_rfl)) ⟨hE2.bx, hE2.bel⟩ ?_ AllReadyH.nil
    refine wpAnyH_ready (rs := [1]) (by kernel_rfl) (by simp) ?_
    refine Zba 1 24 it rfl rfl (by kernel_rfl) (Zbe rfl (by kernel_rfl) hE2.c2) ⟨hE2.bx, hE2.bel⟩ ?_ AllReadyH.nil
    refine wpAnyH_ready (rs := [9]) (by kernel_rfl) (by simp) ?_
    refine Zba 9 32 v' rfl rfl (by kernel_rfl) (Zf0 rfl it (.slice (some ⟨u1.heap.size, 0, none⟩) 1 1) (by kernel_rfl) (by kernel_rfl) hrun) ⟨hE3.bx, hE3.bel⟩ ?_ AllReadyH.nil
    refine Zal 10 33 (.pointer (some ⟨gI, 2, none⟩)) rfl rfl (by kernel_rfl) (by kernel_rfl) (by kernel_rfl) (fun _ _ _ h => h) (by kernel_rfl) (fun v _ => by kernel_rfl) ⟨hE3.bx, hE3.bel⟩ <| wpAnyH_ready (rs := [11]) (by kernel_rfl) (by simp) ?_
    refine Zbu 11 rfl rfl (by kernel_rfl) (Zdh rfl gI v' it hso3.one (by kernel_rfl) (by kernel_rfl) hE3.c2 hE3.fz) ⟨hE4.bx, hE4.bel⟩ ?_ AllReadyH.nil
    refine wpAnyH_done (by kernel_rfl) ?_ _
    refine hkk _ _ ?_
    have HE4 := Hid.mk hE4
    have HSO4 := Hid.mk (show So gI (w3.setCell ⟨gI, 2, none⟩ v') v' ((n.ks.take (j + 1)).map refItemP) from by rw [Zbq HR.out, List.map_append]; exact hSO4)
    clear hE4 hSO4 hE3 hE2 hE1 hE0 hS hS1 hso3 hb3 hrun hz hb1 hkk
    go_frame
    go_wp2_with fail
    exact ⟨⟨j + 1, v', by omega, by simp, HE4.out, HSO4.out⟩, by simp [intOf]; omega⟩
   ·have hji : ¬ (j : Int) < 16 := by omega
    have hso := HSO.out
    rw [List.take_of_length_le (by rw [HKS.out]; omega)] at hso
    have d2 := HE.out.c2
    have e2 := HE.out.bx.c2
    have ef := HE.out.fz
    obtain ⟨v', w3, hrun, hb3, hfull⟩ := Zvt (t := .mk false n.v []) (y := ⟨false, x.va, x.vn, x.vc, none, 0, 0⟩) HE.out hso (Below.refl _ _) (lies_eq.2 ⟨rfl, HH.out.v.1, rfl, Nat.le_refl _, Nat.zero_le _, ⟨HH.out.v.2.1, Nat.zero_le _⟩, Zbi⟩) (by rw [List.length_map, HKS.out]; omega) 107
    have hE3 := HE.out.go hb3
    have f2 := hE3.c2
    have ff := hE3.fz
    have HE4 := Hid.mk (hE3.put v')
    obtain ⟨ia, m, ic, hv', hen⟩ := Zfp (n := n) hfull (by rw [List.length_append, List.length_map, HKS.out]; simp) (by unfold itemP; rw [if_pos H3.out]) HM.out
    subst hv'
    have HRUN := Hid.mk hrun
    have HEN := Hid.mk hen
    clear hso hrun hb3 hfull hE3 hen
    go_upto_region 16 with (first | refine Zb7 rfl _ _ rfl _ _ rfl rfl HRUN.out ?_)
    generalize w3.setCell ⟨gI, 2, none⟩ (.slice ia m ic) = u4 at HE4 HEN ⊢
    have k0 := HE4.out.c0
    have k1 := HE4.out.c1
    have k2 := HE4.out.c2
    clear d2 e2 ef f2 ff
    go_wp2_with fail
    refine HEN.out.mono ?_
    rintro e w5 ⟨⟨a, m5, c5, rfl, hag, hnw⟩, hb5⟩
    have HAG := Hid.mk hag
    have HNW := Hid.mk (hnw.mono HE4.out.bel.size)
    have HB5 := Hid.mk (below_go HE4.out.bel hb5)
    clear hag hb5 hnw
    go_wp2_with fail
    go_ret2
    exact ⟨⟨a, m5, c5, rfl, HAG.out, HNW.out⟩, HB5.out⟩
end Go.Proofs.YtefhepcplempkaaGreat
namespace Go.Proofs.YtefhepcplempkaaGreat.Ni
open Go.RowKit
theorem Zs5 {ops : Array Oper} {o : Oper} {a : Act} {w : World} {K : Act -> World -> Prop} {Q : Exit -> Act -> World -> Prop} {E : Prop} (hgd : o.guard = none) (s x : Operand)
  (ho : o.op = .call { callee := .builtin .append, args := #[s, x], argTypes := #[23, 23] }) (base : Nat) (v : Value) (bs : List Int) (hs : a.eval s = v) (hown : OwnB w base v bs)
  (ad : Addr) (m c : Nat) (news : List Int) (hx : a.eval x = .slice (some ad) m c) (hl : news.length = m) (hnews : ∀ j u, (news.map (Value.int .u8))[j]? = some u -> w.cell? (ad.add j) = some u)
  (hbytes : bs.length + m <= 140737488355328) (hbase : base <= w.heap.size)
  (h : ∀ v' w', OwnB w' base v' (bs ++ news) -> Below base w w' -> K (a.put o.dst v') w') : if Region.wanted o (yielded ops a.tmps) = true then Oper.wp Tryz.prog o a w K Q else E := by
 have hw : Region.wanted o (yielded ops a.tmps) = true := by simp [Region.wanted, hgd]
 rw [if_pos hw]
 obtain ⟨i, hi, hz, hsz, hby⟩ := info5
 refine wp_append_own w s x 23 ho base 5 i (.int .u8 0) 1 1 Tryz.underlying23 hi hz hsz hby rfl (by decide) v bs.length (bs.map (Value.int .u8)) hs hown ad m c (news.map (Value.int .u8)) hx (by simpa using hl) hnews (B8_one2 _) (by unfold maxLen; omega) (by omega) hbase ?_
 intro v' w' h1 h2 h3
 refine h v' w' ?_ ((Below.refl _ _).grown h2 hbase hown.lt)
 unfold OwnB
 rw [List.length_append, hl, List.map_append]
 exact h1
theorem _root_.Go.Proofs.YtefhepcplempkaaGreat.OwnB.drew {w : World} {base : Nat} {v : Value} {bs : List Int} (h : OwnB w base v bs) : OwnB w.drew base v bs := h.far fun i _ _ => rfl
set_option maxHeartbeats 2000000 in
theorem Zs9 (a : Option Addr) (n c : Nat) (p : List Int) (w : World) (h : Ag w a n c p) (hn : n <= 140737488355328) :
  Calls Tryz.prog 122 #[.slice a n c] w fun e w' => (∃ a' m' c', e = .returned (.tuple #[.slice a' m' c', .bool (keyP p).2]) /\ Ag w' a' m' c' (keyP p).1 /\ ∀ g off, a' = some ⟨g, off, none⟩ -> 0 < m' -> w.heap.size <= g) /\ Below w.heap.size w w' := by
 have hl := h.l
 have hr := rright_any a n c p w h hn
 by_cases hrt : rightP p = true
 case neg =>
  rw [Ze4 (fun hh => hrt hh.1)]
  simp only
  rw [show rightP p = false from by simpa using hrt] at hr
  clear h hl hrt
  go_enter Tryz.func122, Tryz.ntmps122
  go_wp2_with fail
  refine hr.mono ?_
  rintro e w1 ⟨rfl, rfl⟩
  clear hr
  go_wp2_with fail
  go_ret2
  exact ⟨⟨none, 0, 0, rfl, ag_nil _, fun _ _ e => by cases e⟩, Below.refl _ _⟩
 rw [hrt] at hr
 by_cases he : n % 2 = 0
 case neg =>
  rw [Ze4 (fun hh => he (by rw [<- hl]; exact hh.2))]
  simp only
  have hei : (n : Int) % 2 = 1 := by omega
  clear h hl he
  go_enter Tryz.func122, Tryz.ntmps122
  go_wp2_with fail
  refine hr.mono ?_
  rintro e w1 ⟨rfl, rfl⟩
  clear hr
  go_wp2_with fail
  go_ret2
  exact ⟨⟨none, 0, 0, rfl, ag_nil _, fun _ _ e => by cases e⟩, Below.refl _ _⟩
 rw [Zg0 hrt (by omega)]
 simp only
 obtain ⟨m, hm⟩ : ∃ m, n / 2 = m := ⟨_, rfl⟩
 have HM : Hid (n = 2 * m) := Hid.mk (by omega)
 have HKL : Hid ((kk p).length = m) := Hid.mk (by rw [Zlo]; omega)
 have HKB := Hid.mk (Znv p h.b hrt)
 have HL := Hid.mk hl
 have HB := Hid.mk h.b
 have HRT := Hid.mk hrt
 have HC := Hid.mk (fun h0 => ag_head h h0)
 have hm3 : (n : Int) % 2 = 0 := by omega
 clear h hl hrt hm he
 go_enter Tryz.func122, Tryz.ntmps122
 go_wp2_with fail
 refine hr.mono ?_
 rintro e w1 ⟨rfl, rfl⟩
 clear hr
 go_wp2_with fail
 clear hm3
 go_loopw [4, 5] (fun q i v => ∃ j k : Nat, j = 2 * k /\ j <= n /\ i = .int .i64 j /\ OwnB v w1.heap.size q ((kk p).take k) /\ Below w1.heap.size w1 v) (fun _ i _ => n - (intOf i).toNat)
 case atStart => exact ⟨0, 0, rfl, by omega, rfl, ownB_nil _ _, Below.refl _ _⟩
 case round =>
  obtain ⟨j, k, hjk, hjn, rfl, hown, hb⟩ := hrel
  have HJ := Hid.mk hjk
  by_cases hlt : j < n
  ·have hki : ((j : Int) + 1) < n := by have := HM.out; omega
   have hki0 : (j : Int) < n := by omega
   have hget := Znw p k (by have := HL.out; have := HM.out; omega)
   have hts := take_snoc (b := kk p) (i := k) (by have := HKL.out; have := HM.out; omega)
   rw [hget] at hts
   obtain ⟨g, off, rfl, hnc, hcm, hcs⟩ := HC.out (by omega)
   unfold maxLen at hcm
   have hc1 := (hb.cell (p := ⟨g, off + (2 * k), none⟩) (block_lt_of_cell (hcs (2 * k) (by omega)))).trans (hcs (2 * k) (by omega))
   have hc2 := (hb.cell (p := ⟨g, off + (2 * k + 1), none⟩) (block_lt_of_cell (hcs (2 * k + 1) (by omega)))).trans (hcs (2 * k + 1) (by omega))
   have hx0 := (HB.out _ (getD_mem (l := p) (i := 2 * k) (by have := HL.out; omega))).1
   have hy0 := (HB.out _ (getD_mem (l := p) (i := 2 * k + 1) (by have := HL.out; omega))).1
   have hx1 := Zeh HRT.out (i := 2 * k) (by have := HL.out; omega)
   have hy1 := Zeh HRT.out (i := 2 * k + 1) (by have := HL.out; omega)
   generalize p.getD (2 * k) 0 = x at *
   generalize p.getD (2 * k + 1) 0 = y at *
   rw [<- hjk] at hc1 hc2
   have ht2 : ((j : Int) + 1).toNat = j + 1 := by omega
   have ht3 : (0 : Int) <= (j : Int) + 1 := by omega
   have hw1 : IntKind.i64.wrap ((j : Int) + 1) = (j : Int) + 1 := by rw [IntKind.wrap_i64]; omega
   have hw2 : IntKind.u8.wrap (16 * x) = 16 * x := by rw [IntKind.wrap_u8]; omega
   have hw3 : IntKind.u8.wrap (16 * x + y) = 16 * x + y := by rw [IntKind.wrap_u8]; omega
   have HTS := Hid.mk hts
   have HTL : Hid (((kk p).take k).length = k) := Hid.mk (by rw [List.length_take, HKL.out]; have := HM.out; omega)
   have HO2 : Hid (∀ o : Obj, OwnB (wr.drew.alloc o) w1.heap.size u4 ((kk p).take k)) := Hid.mk fun o => OwnB.alloc hown.drew o
   have HBB := Hid.mk hb
   have HSZ := Hid.mk hb.size
   clear hts hown hb hget hcs hjk
   go_wp2_with fail
   go_region_law (refine Zs5 rfl (.tmp 22) (.tmp 34) rfl w1.heap.size _ ((kk p).take k) rfl (HO2.out _) ⟨wr.heap.size, 0, none⟩ 1 1 [16 * x + y] rfl rfl (one_new wr.drew _) (by have := HTL.out; have := HJ.out; omega) (by have := HSZ.out; simp; omega) ?_; intro v1 w2 o1 hb1; rw [<- HTS.out] at o1; have HO3 := Hid.mk o1; have HB3 := Hid.mk hb1; clear o1 hb1)
   all_goals
    go_wp2_with fail
    refine ⟨⟨j + 2, k + 1, by have := HJ.out; omega, by omega, by simp, HO3.out, ?_⟩, by simp [intOf]; omega⟩
    exact (HBB.out.drew.alloc HSZ.out _).trans HB3.out
  ·have hki : ¬ ((j : Int) + 1) < n := by omega
   have e : k = m := by have := HM.out; omega
   subst e
   rw [List.take_of_length_le (by rw [HKL.out]; exact Nat.le_refl _)] at hown
   obtain ⟨a', c', rfl, hag⟩ := OwnB.ag hown HKB.out
   have HN : Hid (∀ g off, a' = some ⟨g, off, none⟩ -> 0 < k -> w1.heap.size <= g) := Hid.mk (by
    rcases hown.2 with ⟨e, _⟩ | ⟨g', cap', cur, e, hg', _⟩
    ·injection e with e1; rw [e1]; intro _ _ q; cases q
    ·injection e with e1; rw [e1]; intro _ _ q; cases q; exact fun _ => hg')
   have HA := Hid.mk hag
   have HBB := Hid.mk hb
   clear hown hag hb hjk
   go_wp2_with fail
   go_ret2
   exact ⟨⟨a', _, c', rfl, HA.out, fun g off e h0 => HN.out g off e (by have := HA.out.l; have := HKL.out; omega)⟩, HBB.out⟩
theorem Zgu (a : Option Addr) (n c : Nat) (p : List Int) (w : World) (h : Ag w a n c p) (hn : n <= 140737488355328) :
  Calls Tryz.prog 122 #[.slice a n c] w fun e w' => (∃ a' m' c', e = .returned (.tuple #[.slice a' m' c', .bool (keyP p).2]) /\ Ag w' a' m' c' (keyP p).1) /\ Below w.heap.size w w' :=
 (Zs9 a n c p w h hn).mono fun e w' hq => by obtain ⟨⟨a', m', c', h1, h2, _⟩, h3⟩ := hq; exact ⟨⟨a', m', c', h1, h2⟩, h3⟩
end Go.Proofs.YtefhepcplempkaaGreat.Ni
namespace Go.Proofs.YtefhepcplempkaaGreat.Ni
open Go.RowKit
theorem hd_of (n : Nat) (leaf : Bool) : hdP n leaf = if n % 2 = 0 then [if leaf then 2 else 0] ++ [0] else [if leaf then 3 else 1] := by
 unfold hdP
 cases leaf <;> rfl
set_option maxHeartbeats 2000000 in
theorem rpack_any (a : Option Addr) (n c : Nat) (p : List Int) (leaf : Bool) (w : World) (h : Ag w a n c p) (hn : n + 2 <= 140737488355328) :
  Calls Tryz.prog 87 #[.slice a n c, .bool leaf] w fun e w' => (∃ a' m c', e = .returned (.tuple #[.slice a' m c', .int .i64 ((packP p leaf).2 : Nat)]) /\ Ag w' a' m c' (packP p leaf).1) /\ Below w.heap.size w w' := by
 have hl := h.l
 have hr := rright_any a n c p w h (by omega)
 by_cases hrt : rightP p = true
 case neg =>
  rw [Zti hrt]
  simp only
  rw [show rightP p = false from by simpa using hrt] at hr
  clear h hl hrt
  go_enter Tryz.func87, Tryz.ntmps87
  go_wp2_with fail
  refine hr.mono ?_
  rintro e w1 ⟨rfl, rfl⟩
  clear hr
  go_wp2_with fail
  go_ret2
  exact ⟨⟨none, 0, 0, rfl, ag_nil _⟩, Below.refl _ _⟩
 rw [packP_yes hrt]
 simp only
 rw [hrt] at hr
 have hpk := Znl (p := p) (leaf := leaf)
 rw [if_pos hrt] at hpk
 have hfb := Zkh (p := p) (leaf := leaf) h.b
 rw [hl] at hpk hfb ⊢
 have hho := hd_of n leaf
 have hhl := hd_len n leaf
 have HHL : Hid ((hdP n leaf).length <= 2) := Hid.mk (by omega)
 have HPK := Hid.mk hpk
 have HFB := Hid.mk hfb
 have HAG := Hid.mk h
 have HL := Hid.mk hl
 have HR := Hid.mk hr
 generalize hdP n leaf = hd at *
 clear hpk hfb h hl hr hrt hhl
 by_cases he : n % 2 = 0
 ·rw [if_pos he] at hho
  have hei : (n : Int) % 2 = 0 := by omega
  have HHO := Hid.mk hho
  clear hho he
  cases leaf with
  | true =>
   simp only [if_true] at HHO
   go_enter Tryz.func87, Tryz.ntmps87
   go_wp2_with fail
   refine HR.out.mono ?_
   rintro e w1 ⟨rfl, rfl⟩
   clear HR
   go_wp2_with (first
    | (at_builtin; refine Zbz rfl (.tmp 26) (.tmp 27) rfl w1.heap.size _ [2] rfl (OwnB.alloc (Zej w1 _) _) (some ⟨w1.heap.size + 1, 0, none⟩) 1 1 [0] rfl (by have := in0_one (w1.alloc (.cells #[.int .u8 2] 5)) 0; simpa using this) (fun h => by cases h) rfl (by show 1 + 1 <= 140737488355328; omega) (by simp; omega) ?_; intro v1 w2 o1 hb1; rw [<- HHO.out] at o1; have HO1 := Hid.mk o1; have HB1 := Hid.mk ((((Below.refl w1.heap.size w1).alloc (Nat.le_refl _) _).alloc (by simp) _).trans hb1); clear o1 hb1)
    | (at_builtin; refine Zbz rfl (.tmp 29) (.tmp 30) rfl w1.heap.size _ hd rfl HO1.out a n c p rfl (HAG.out.at HB1.out).i HAG.out.nil HAG.out.l (by have := HHL.out; omega) HB1.out.size ?_; intro v2 w3 o2 hb2; obtain ⟨a2, c2, rfl, hag2⟩ := OwnB.ag o2 HFB.out; have HB2 := Hid.mk (HB1.out.trans hb2); have HA2 := Hid.mk hag2; clear o2 hb2 hag2; generalize hgl : (hd ++ p).length = len2 at HA2 ⊢; have HGL := Hid.mk hgl; clear hgl))
   have hk := Zgu a2 len2 c2 (hd ++ p) _ HA2.out (by have h1 := HGL.out; rw [List.length_append, HL.out] at h1; have := HHL.out; omega)
   rw [HPK.out] at hk
   simp only at hk
   have HK := Hid.mk hk
   clear hk
   refine HK.out.mono ?_
   rintro e w9 ⟨⟨a3, m3, c3, rfl, hag3⟩, hb3⟩
   have HA3 := Hid.mk hag3
   have HB3 := Hid.mk (HB2.out.trans (hb3.mono HB2.out.size))
   clear hag3 hb3
   go_wp2_with fail
   go_ret2
   exact ⟨⟨a3, m3, c3, rfl, HA3.out⟩, HB3.out⟩
  | false =>
   simp only [Bool.false_eq_true, if_false] at HHO
   go_enter Tryz.func87, Tryz.ntmps87
   go_wp2_with fail
   refine HR.out.mono ?_
   rintro e w1 ⟨rfl, rfl⟩
   clear HR
   go_wp2_with (first
    | (at_builtin; refine Zbz rfl (.tmp 26) (.tmp 27) rfl w1.heap.size _ [0] rfl (OwnB.alloc (Zej w1 _) _) (some ⟨w1.heap.size + 1, 0, none⟩) 1 1 [0] rfl (by have := in0_one (w1.alloc (.cells #[.int .u8 0] 5)) 0; simpa using this) (fun h => by cases h) rfl (by show 1 + 1 <= 140737488355328; omega) (by simp; omega) ?_; intro v1 w2 o1 hb1; rw [<- HHO.out] at o1; have HO1 := Hid.mk o1; have HB1 := Hid.mk ((((Below.refl w1.heap.size w1).alloc (Nat.le_refl _) _).alloc (by simp) _).trans hb1); clear o1 hb1)
    | (at_builtin; refine Zbz rfl (.tmp 29) (.tmp 30) rfl w1.heap.size _ hd rfl HO1.out a n c p rfl (HAG.out.at HB1.out).i HAG.out.nil HAG.out.l (by have := HHL.out; omega) HB1.out.size ?_; intro v2 w3 o2 hb2; obtain ⟨a2, c2, rfl, hag2⟩ := OwnB.ag o2 HFB.out; have HB2 := Hid.mk (HB1.out.trans hb2); have HA2 := Hid.mk hag2; clear o2 hb2 hag2; generalize hgl : (hd ++ p).length = len2 at HA2 ⊢; have HGL := Hid.mk hgl; clear hgl))
   have hk := Zgu a2 len2 c2 (hd ++ p) _ HA2.out (by have h1 := HGL.out; rw [List.length_append, HL.out] at h1; have := HHL.out; omega)
   rw [HPK.out] at hk
   simp only at hk
   have HK := Hid.mk hk
   clear hk
   refine HK.out.mono ?_
   rintro e w9 ⟨⟨a3, m3, c3, rfl, hag3⟩, hb3⟩
   have HA3 := Hid.mk hag3
   have HB3 := Hid.mk (HB2.out.trans (hb3.mono HB2.out.size))
   clear hag3 hb3
   go_wp2_with fail
   go_ret2
   exact ⟨⟨a3, m3, c3, rfl, HA3.out⟩, HB3.out⟩
 ·rw [if_neg he] at hho
  have hei : (n : Int) % 2 = 1 := by omega
  have HHO := Hid.mk hho
  clear hho he
  cases leaf with
  | true =>
   simp only [if_true] at HHO
   go_enter Tryz.func87, Tryz.ntmps87
   go_wp2_with fail
   refine HR.out.mono ?_
   rintro e w1 ⟨rfl, rfl⟩
   clear HR
   have HO1 : Hid (OwnB (w1.alloc (.cells #[.int .u8 3] 5)) w1.heap.size (.slice (some ⟨w1.heap.size, 0, none⟩) 1 1) hd) := Hid.mk (by rw [HHO.out]; exact Zej w1 _)
   have HB1 : Hid (Below w1.heap.size w1 (w1.alloc (.cells #[.int .u8 3] 5))) := Hid.mk (below_new _ _)
   go_wp2_with (first
    | (at_builtin; refine Zbz rfl (.tmp 29) (.tmp 30) rfl w1.heap.size _ hd rfl HO1.out a n c p rfl (HAG.out.at HB1.out).i HAG.out.nil HAG.out.l (by have := HHL.out; omega) HB1.out.size ?_; intro v2 w3 o2 hb2; obtain ⟨a2, c2, rfl, hag2⟩ := OwnB.ag o2 HFB.out; have HB2 := Hid.mk (HB1.out.trans hb2); have HA2 := Hid.mk hag2; clear o2 hb2 hag2; generalize hgl : (hd ++ p).length = len2 at HA2 ⊢; have HGL := Hid.mk hgl; clear hgl))
   have hk := Zgu a2 len2 c2 (hd ++ p) _ HA2.out (by have h1 := HGL.out; rw [List.length_append, HL.out] at h1; have := HHL.out; omega)
   rw [HPK.out] at hk
   simp only at hk
   have HK := Hid.mk hk
   clear hk
   refine HK.out.mono ?_
   rintro e w9 ⟨⟨a3, m3, c3, rfl, hag3⟩, hb3⟩
   have HA3 := Hid.mk hag3
   have HB3 := Hid.mk (HB2.out.trans (hb3.mono HB2.out.size))
   clear hag3 hb3
   go_wp2_with fail
   go_ret2
   exact ⟨⟨a3, m3, c3, rfl, HA3.out⟩, HB3.out⟩
  | false =>
   simp only [Bool.false_eq_true, if_false] at HHO
   go_enter Tryz.func87, Tryz.ntmps87
   go_wp2_with fail
   refine HR.out.mono ?_
   rintro e w1 ⟨rfl, rfl⟩
   clear HR
   have HO1 : Hid (OwnB (w1.alloc (.cells #[.int .u8 1] 5)) w1.heap.size (.slice (some ⟨w1.heap.size, 0, none⟩) 1 1) hd) := Hid.mk (by rw [HHO.out]; exact Zej w1 _)
   have HB1 : Hid (Below w1.heap.size w1 (w1.alloc (.cells #[.int .u8 1] 5))) := Hid.mk (below_new _ _)
   go_wp2_with (first
    | (at_builtin; refine Zbz rfl (.tmp 29) (.tmp 30) rfl w1.heap.size _ hd rfl HO1.out a n c p rfl (HAG.out.at HB1.out).i HAG.out.nil HAG.out.l (by have := HHL.out; omega) HB1.out.size ?_; intro v2 w3 o2 hb2; obtain ⟨a2, c2, rfl, hag2⟩ := OwnB.ag o2 HFB.out; have HB2 := Hid.mk (HB1.out.trans hb2); have HA2 := Hid.mk hag2; clear o2 hb2 hag2; generalize hgl : (hd ++ p).length = len2 at HA2 ⊢; have HGL := Hid.mk hgl; clear hgl))
   have hk := Zgu a2 len2 c2 (hd ++ p) _ HA2.out (by have h1 := HGL.out; rw [List.length_append, HL.out] at h1; have := HHL.out; omega)
   rw [HPK.out] at hk
   simp only at hk
   have HK := Hid.mk hk
   clear hk
   refine HK.out.mono ?_
   rintro e w9 ⟨⟨a3, m3, c3, rfl, hag3⟩, hb3⟩
   have HA3 := Hid.mk hag3
   have HB3 := Hid.mk (HB2.out.trans (hb3.mono HB2.out.size))
   clear hag3 hb3
   go_wp2_with fail
   go_ret2
   exact ⟨⟨a3, m3, c3, rfl, HA3.out⟩, HB3.out⟩
end Go.Proofs.YtefhepcplempkaaGreat.Ni

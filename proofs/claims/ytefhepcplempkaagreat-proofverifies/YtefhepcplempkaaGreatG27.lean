/- The list of a leaf or a link, as the document's Encode makes it. -/
import Derived.Test.YtefhepcplempkaaGreatG26
import Derived.Test.YtefhepcplempkaaGreatG10
import Derived.Test.YtefhepcplempkaaGreatG11
import Derived.Great.BuildSlice
import Derived.Great.FillDense
set_option linter.unusedVariables false
set_option maxRecDepth 100000
namespace Go.Proofs.YtefhepcplempkaaGreat
open Go.RowKit
theorem round_any {base : Nat} {wr w1 : World} {it : Value} {ys : List V} {y : V} (hz : base <= wr.heap.size) (hown : OwnI wr base it ys) (hb1 : Below wr.heap.size wr w1) (hlen : ys.length <= 1000000000) (ty : TypeId) :
  ∃ v' w3, (Builtin.append_ #[107, 107] ty #[it, .slice (some ⟨w1.heap.size, 0, none⟩) 1 1]).run Tryz.prog (w1.alloc (.cells #[.bool y.l, .slice y.ba y.bn y.bc, .slice y.ia y.m y.ic] 109)) = .ok v' w3 ∧
   OwnI w3 base v' (ys ++ [y]) /\ Below base wr w3 /\ (∀ b, wr.heap.size <= b -> b < w1.heap.size -> w3.heap[b]? = w1.heap[b]?) := by
 obtain ⟨Y, hY⟩ : ∃ Y : Obj, Obj.cells #[.bool y.l, .slice y.ba y.bn y.bc, .slice y.ia y.m y.ic] 109 = Y := ⟨_, rfl⟩
 rw [hY]
 have hs2 : (w1.alloc Y).heap.size = w1.heap.size + 1 := by simp
 have hb2 : Below wr.heap.size wr (w1.alloc Y) := hb1.alloc hb1.size _
 have hz1 := hb1.size
 have hblk : (w1.alloc Y).heap[w1.heap.size]? = some Y := heap_alloc_new w1 Y
 have hnews : ∀ j u, (V.cells y)[j]? = some u -> (w1.alloc Y).cell? ((⟨w1.heap.size, 0, none⟩ : Addr).add j) = some u := by
  intro j u hu
  rw [Zaz, Nat.zero_add]
  rw [<- hY] at hblk ⊢
  rw [cell_of_row _ _ _ _ _ _ hblk]
  simpa [V.cells] using hu
 obtain ⟨v', w3, hrun, hown3, hgr, hown4⟩ := Zg4 (Zb5 hown fun g _ hg => hb2.block g hg) y _ 1 hnews (by omega) hlen ty
 have hfar : ∀ b, b < w1.heap.size + 1 -> it.ownBlock ≠ some b -> w3.heap[b]? = (w1.alloc Y).heap[b]? := fun b hb hne => hgr.block b (by rw [hs2]; exact hb) (fun h => hne h.symm)
 refine ⟨v', w3, hrun, hown3, ⟨hgr.os.trans hb2.os, hgr.tape.trans hb2.tape, hgr.output.trans hb2.output, Nat.le_trans hb2.size hgr.size, fun b hb => ?_⟩, fun b h1 h2 => ?_⟩
 ·rw [hfar b (by omega) (fun h => by have := (Zdk hown h).1; omega)]
  exact hb2.block b (by omega)
 ·rw [hfar b (by omega) (fun h => by have := (Zdk hown h).2; omega), Below.heap_alloc _ _ _ h2]
def Pkd (gI base : Nat) (u : World) (a : Option Addr) (m c : Nat) (pk : List Int) : Prop := AgK (fun g => g < base /\ g ≠ gI) u a m c pk
theorem Zxt {w v : World} {x : NV} {gI : Nat} {it : Value} (h : En w v x gI it) (hl : ∃ ia m ic, it = .slice ia m ic) {a : Option Addr} {m c : Nat} {pk : List Int} (ha : Ag v a m c pk) (hm : m <= 140737488351232) : Pkd gI v.heap.size v a m c pk := by
 refine ⟨ha, hm, fun g off e h0 => ?_⟩
 obtain ⟨g', off', e', _, _, hc⟩ := ag_head ha h0
 rw [e] at e'
 cases e'
 have hc0 := hc 0 h0
 refine ⟨block_lt_of_cell hc0, fun hg => ?_⟩
 subst hg
 rw [cell_of_row _ _ _ _ _ _ h.row] at hc0
 obtain ⟨ia, m', ic, rfl⟩ := hl
 match off, hc0 with
 | 0, h => simp at h
 | 1, h => simp at h
 | 2, h => simp at h
 | k + 3, h => simp at h
theorem Pkd.lies {gI base : Nat} {u : World} {a : Option Addr} {m c : Nat} {pk : List Int} (h : Pkd gI base u a m c pk) : Lies u (.mk false pk []) ⟨false, a, m, c, none, 0, 0⟩ :=
 lies_eq.2 ⟨rfl, h.1, rfl, Nat.le_refl _, Nat.zero_le _, ⟨h.2.1, Nat.zero_le _⟩, Zbi⟩
theorem Pkd.go {gI base : Nat} {u u' : World} {a : Option Addr} {m c : Nat} {pk : List Int} (h : Pkd gI base u a m c pk) (hb : Below base u u') (it : Value) : Pkd gI base (u'.setCell ⟨gI, 2, none⟩ it) a m c pk :=
 AgK.go (fun g hK hg => ⟨(heap_setCell_other _ _ _ _ hK.2).trans (hb.block g hK.1), hK⟩) h
theorem Zjc {w wP : World} {x : NV} {gI : Nat} (hE : En w wP x gI (.slice none 0 0)) {a : Option Addr} {m c : Nat} {pk : List Int} (ha : Ag wP a m c pk) (hm : m <= 140737488351232) (ty : TypeId) :
  ∃ v' w3, (Builtin.append_ #[107, 107] ty #[.slice none 0 0, .slice (some ⟨wP.heap.size, 0, none⟩) 1 1]).run Tryz.prog (wP.alloc (.cells #[.bool false, .slice a m c, .slice none 0 0] 109)) = .ok v' w3 ∧
   Below (gI + 1) wP w3 /\ (∃ ia m ic, v' = .slice ia m ic) /\ wP.heap.size <= (w3.setCell ⟨gI, 2, none⟩ v').heap.size /\ OwnI (w3.setCell ⟨gI, 2, none⟩ v') wP.heap.size v' [⟨false, a, m, c, none, 0, 0⟩] /\ Pkd gI wP.heap.size (w3.setCell ⟨gI, 2, none⟩ v') a m c pk := by
 obtain ⟨v', w3, h1, h2, h3, _⟩ := round_any (y := ⟨false, a, m, c, none, 0, 0⟩) (it := .slice none 0 0) (ys := []) (Nat.le_refl wP.heap.size) (World.ownsRow_nil _ _ _ _) (Below.refl _ _) (by simp) ty
 have hgz := hE.sz
 refine ⟨v', w3, h1, ⟨h3.os, h3.tape, h3.output, h3.size, fun k hk => h3.block k (by omega)⟩, ?_, by simpa using h3.size, Zb5 h2 fun g hg _ => heap_setCell_other _ _ _ _ (by have := (Zdk h2 hg).1; show g ≠ gI; omega), (Zxt hE ⟨_, _, _, rfl⟩ ha hm).go h3 v'⟩
 rcases h2.2 with ⟨e, _⟩ | ⟨g, cap, cur, e, _⟩
 ·exact ⟨_, _, _, e⟩
 ·exact ⟨_, _, _, e⟩
theorem Zhv {w u w1 : World} {x : NV} {gI base : Nat} {it : Value} (hE : En w u x gI it) (hgb : gI + 1 <= base) (hz : base <= u.heap.size) {a : Option Addr} {m c : Nat} {pk : List Int} (hown : OwnI u base it [⟨false, a, m, c, none, 0, 0⟩]) (hp : Pkd gI base u a m c pk) (hb1 : Below u.heap.size u w1) {t : T} {y : V}
  (hy : ∀ w4, Below w.heap.size w w4 -> (∀ b, u.heap.size <= b -> b < w1.heap.size -> w4.heap[b]? = w1.heap[b]?) -> Lies w4 t y) (ty : TypeId) :
  ∃ v' w3, (Builtin.append_ #[107, 107] ty #[it, .slice (some ⟨w1.heap.size, 0, none⟩) 1 1]).run Tryz.prog (w1.alloc (.cells #[.bool y.l, .slice y.ba y.bn y.bc, .slice y.ia y.m y.ic] 109)) = .ok v' w3 /\ Below (gI + 1) u w3 /\ Full gI w (w3.setCell ⟨gI, 2, none⟩ v') v' [.mk false pk [], t] := by
 obtain ⟨v', w3, h1, h2, h3, h4⟩ := round_any (y := y) hz hown hb1 (by simp) ty
 have hB : Below (gI + 1) u w3 := ⟨h3.os, h3.tape, h3.output, h3.size, fun k hk => h3.block k (by omega)⟩
 have hE3 := (hE.go hB).put v'
 refine ⟨v', w3, h1, hB, Zhx (base := base) (Zb5 h2 fun g hg _ => heap_setCell_other _ _ _ _ (by have := (Zdk h2 hg).1; show g ≠ gI; omega)) ⟨(hp.go h3 v').lies, hy _ hE3.bel fun b hb hlt => ?_, trivial⟩⟩
 exact (heap_setCell_other _ _ _ _ (by show b ≠ gI; omega)).trans (h4 b hb hlt)
end Go.Proofs.YtefhepcplempkaaGreat
namespace Go.Proofs.YtefhepcplempkaaGreat
open Go.RowKit
open Ni (packP)
theorem Pkd.drew {gI base : Nat} {u : World} {a : Option Addr} {m c : Nat} {pk : List Int} (h : Pkd gI base u a m c pk) : Pkd gI base u.drew a m c pk := AgK.go (w := u) (w' := u.drew) (fun g hK hg => ⟨rfl, hK⟩) h
set_option maxHeartbeats 8000000 in
theorem Zte (K : Nat -> Prop) (x : NV) (n : PN) (w : World) (h : NodeAt K w x n) (h1 : n.k = 1) (hd : ∀ r, (r = n.c \/ r ∈ n.ks) -> r.i.length < 32 -> DDSaid r.i) :
  Calls Tryz.prog 59 #[.agg x.cells.toArray] w (EEPost w n) := by
 have B := Zcp w x h.c.len
 have HB := Hid.mk (below_new w (.cells x.cells.toArray 68))
 have HH := Hid.mk h
 obtain ⟨q, hq⟩ : ∃ q, NR n = q := ⟨_, rfl⟩
 have HR1 := Hid.mk (show ∀ v, Below w.heap.size w v -> Calls Tryz.prog 85 #[.agg x.cells.toArray] v fun e w' => e = .returned (.bool q) /\ Below v.heap.size v w' from fun v hv => by
  rw [<- hq]; exact Zfh K x n v (h.go (Keep.below hv)) hd)
 have HQ := Hid.mk hq
 have hk : x.k = 1 := by rw [h.k]; exact h1
 have hvn := h.v.2.1
 unfold EEPost
 rw [hq]
 have H1 := Hid.mk h1
 clear h hq hd h1
 go_enter Tryz.func59, Tryz.ntmps59
 go_upto_region 1 with fail
 refine gen_w (p := fun v => Code.wp _ _ _ _ v) (q := fun v => NBx w.heap.size v x /\ Below w.heap.size w v) ⟨B, HB.out⟩ ?_
 clear B HB
 rintro v ⟨B, hb⟩
 have HB := Hid.mk hb
 have HX := Hid.mk B
 clear hb B
 go_wp2_with (first | refine Za8 rfl _ rfl w.heap.size rfl x HX.out ?_)
 refine (HR1.out v HB.out).mono ?_
 rintro e w1 ⟨rfl, hb1⟩
 have HX1 := Hid.mk (HX.out.go hb1)
 have HB1 := Hid.mk (below_go HB.out hb1)
 clear hb1 HX HB
 cases q with
 | false =>
  go_wp2_with fail
  go_ret2
  exact ⟨⟨none, 0, 0, rfl, ⟨.inl ⟨rfl, rfl⟩, fun _ => ⟨rfl, rfl⟩, rfl, fun x hx => by cases hx⟩, fun g off h => by cases h⟩, HB1.out⟩
 | true =>
  obtain ⟨b1, b2, b3⟩ := Zc1 HH.out.okN HQ.out
  have HM := Hid.mk b1
  have HPL := Hid.mk (Zkr HQ.out).2
  have hpn : x.pn <= 1000 := by rw [<- HH.out.p.l]; exact HPL.out
  have HLT := Hid.mk (show w.heap.size < w1.heap.size from (Array.getElem?_eq_some_iff.1 HX1.out.row).1)
  clear b1 b2 b3
  go_upto_region 5 with fail
  obtain ⟨gI, hgI⟩ : ∃ gI, w1.heap.size = gI := ⟨_, rfl⟩
  refine gen_w (p := fun v => Code.wp _ _ _ _ v) (q := fun v => En w v x gI (.slice none 0 0)) ⟨by rw [<- hgI]; exact heap_alloc_new _ _, HX1.out.go (below_new _ _), below_go HB1.out (below_new _ _), by rw [<- hgI]; exact HLT.out, by simp [hgI]⟩ ?_
  intro v2 E2
  rw [hgI]
  have c0 := E2.bx.c0
  have c1 := E2.bx.c1
  rw [hk] at c0
  have HE2 := Hid.mk E2
  clear E2 HX1 HB1 HLT hgI
  have HPK := Hid.mk (Ni.rpack_any x.pa x.pn x.pc n.p true v2 (HH.out.p.1.at HE2.out.bel) (by omega))
  obtain ⟨pk, hpk⟩ : ∃ pk, (packP n.p true).1 = pk := ⟨_, rfl⟩
  rw [hpk] at HPK
  have HPKE := Hid.mk hpk
  have HPKL := Hid.mk (show pk.length <= 1000 from by
   rw [<- hpk]
   unfold packP
   split
   ·dsimp only; rw [Ni.pack_len]; have := HPL.out; omega
   ·simp)
  obtain ⟨per, hper⟩ : ∃ per : Nat, (packP n.p true).2 = per := ⟨_, rfl⟩
  rw [hper] at HPK
  clear hpk hper
  go_wp2_with fail
  refine HPK.out.mono ?_
  rintro e wP ⟨⟨a', m, c', rfl, hag⟩, hbP⟩
  have hEP := HE2.out.all hbP
  have d2 := hEP.c2
  have df := hEP.fz
  obtain ⟨it, w3, hrun, hb3, hsl, hz4, how4, hpd4⟩ := Zjc hEP hag (by have := hag.l; have := HPKL.out; omega) 107
  have HGB := Hid.mk hEP.sz
  have hE3 := hEP.go hb3
  have f2 := hE3.c2
  have ff := hE3.fz
  have HE4 := Hid.mk (hE3.put it)
  obtain ⟨ja, jm, jc, hit⟩ := hsl
  have HIT := Hid.mk hit
  have HZ4 := Hid.mk hz4
  have HOW4 := Hid.mk how4
  have HPD4 := Hid.mk hpd4
  rw [hit] at hrun
  have HRUN := Hid.mk hrun
  clear hag hbP hrun hb3 hz4 how4 hpd4 hE3 hEP hit c0 c1 HPK HE2
  go_upto_region 13 with (first | refine Zb7 rfl _ _ rfl _ _ rfl rfl HRUN.out ?_)
  rw [<- HIT.out]
  generalize w3.setCell ⟨gI, 2, none⟩ it = u4 at HE4 HZ4 HOW4 HPD4 ⊢
  have g0 := HE4.out.bx.c0
  rw [hk] at g0
  clear d2 df f2 ff HRUN
  have d2 := HE4.out.c2
  have e2 := HE4.out.bx.c2
  have ef := HE4.out.fz
  obtain ⟨v', w3, hrun, hb3, hfull⟩ := Zhv (t := .mk false n.v []) (y := ⟨false, x.va, x.vn, x.vc, none, 0, 0⟩) HE4.out HGB.out HZ4.out HOW4.out HPD4.out (Below.refl _ _) (fun w4 h4 _ => Zay h4 _ _ (lies_eq.2 ⟨rfl, HH.out.v.1, rfl, Nat.le_refl _, Nat.zero_le _, ⟨HH.out.v.2.1, Nat.zero_le _⟩, Zbi⟩)) 107
  have hE5 := HE4.out.go hb3
  have f2 := hE5.c2
  have ff := hE5.fz
  have HE5 := Hid.mk (hE5.put v')
  obtain ⟨ia, m', ic, hv', hen⟩ := Zfp (n := n) hfull (by simp) (by unfold itemP; rw [H1.out, if_neg (by decide), if_pos rfl, HPKE.out]) HM.out
  subst hv'
  have HRUN := Hid.mk hrun
  clear hrun hb3 hfull hE5
  go_upto_region 16 with (first | refine Zb7 rfl _ _ rfl _ _ rfl rfl HRUN.out ?_)
  generalize w3.setCell ⟨gI, 2, none⟩ (.slice ia m' ic) = u5 at HE5 hen ⊢
  clear d2 e2 ef f2 ff
  have HEN := Hid.mk hen
  clear hen
  have k0 := HE5.out.c0
  have k1 := HE5.out.c1
  have k2 := HE5.out.c2
  go_wp2_with fail
  refine HEN.out.mono ?_
  rintro e w5 ⟨⟨a, m5, c5, rfl, hag, hnw⟩, hb5⟩
  have HAG := Hid.mk hag
  have HNW := Hid.mk (hnw.mono HE5.out.bel.size)
  have HB5 := Hid.mk (below_go HE5.out.bel hb5)
  clear hag hb5 hnw
  go_wp2_with fail
  go_ret2
  exact ⟨⟨a, m5, c5, rfl, HAG.out, HNW.out⟩, HB5.out⟩
set_option maxHeartbeats 8000000 in
theorem Ztd (K : Nat -> Prop) (x : NV) (n : PN) (w : World) (h : NodeAt K w x n) (h2 : n.k = 2) (hd : ∀ r, (r = n.c \/ r ∈ n.ks) -> r.i.length < 32 -> DDSaid r.i) :
  Calls Tryz.prog 59 #[.agg x.cells.toArray] w (EEPost w n) := by
 have B := Zcp w x h.c.len
 have HB := Hid.mk (below_new w (.cells x.cells.toArray 68))
 have HH := Hid.mk h
 obtain ⟨q, hq⟩ : ∃ q, NR n = q := ⟨_, rfl⟩
 have HR1 := Hid.mk (show ∀ v, Below w.heap.size w v -> Calls Tryz.prog 85 #[.agg x.cells.toArray] v fun e w' => e = .returned (.bool q) /\ Below v.heap.size v w' from fun v hv => by
  rw [<- hq]; exact Zfh K x n v (h.go (Keep.below hv)) hd)
 have HQ := Hid.mk hq
 have hk : x.k = 2 := by rw [h.k]; exact h2
 have hvn := h.v.2.1
 unfold EEPost
 rw [hq]
 have H2 := Hid.mk h2
 clear h hq hd h2
 go_enter Tryz.func59, Tryz.ntmps59
 go_upto_region 1 with fail
 refine gen_w (p := fun v => Code.wp _ _ _ _ v) (q := fun v => NBx w.heap.size v x /\ Below w.heap.size w v) ⟨B, HB.out⟩ ?_
 clear B HB
 rintro v ⟨B, hb⟩
 have HB := Hid.mk hb
 have HX := Hid.mk B
 clear hb B
 go_wp2_with (first | refine Za8 rfl _ rfl w.heap.size rfl x HX.out ?_)
 refine (HR1.out v HB.out).mono ?_
 rintro e w1 ⟨rfl, hb1⟩
 have HX1 := Hid.mk (HX.out.go hb1)
 have HB1 := Hid.mk (below_go HB.out hb1)
 clear hb1 HX HB
 cases q with
 | false =>
  go_wp2_with fail
  go_ret2
  exact ⟨⟨none, 0, 0, rfl, ⟨.inl ⟨rfl, rfl⟩, fun _ => ⟨rfl, rfl⟩, rfl, fun x hx => by cases hx⟩, fun g off h => by cases h⟩, HB1.out⟩
 | true =>
  obtain ⟨b1, b2, b3⟩ := Zc1 HH.out.okN HQ.out
  have HM := Hid.mk b1
  have HPL := Hid.mk (Zkr HQ.out).2
  have hpn : x.pn <= 1000 := by rw [<- HH.out.p.l]; exact HPL.out
  have HLT := Hid.mk (show w.heap.size < w1.heap.size from (Array.getElem?_eq_some_iff.1 HX1.out.row).1)
  clear b1 b2 b3
  go_upto_region 5 with fail
  obtain ⟨gI, hgI⟩ : ∃ gI, w1.heap.size = gI := ⟨_, rfl⟩
  refine gen_w (p := fun v => Code.wp _ _ _ _ v) (q := fun v => En w v x gI (.slice none 0 0)) ⟨by rw [<- hgI]; exact heap_alloc_new _ _, HX1.out.go (below_new _ _), below_go HB1.out (below_new _ _), by rw [<- hgI]; exact HLT.out, by simp [hgI]⟩ ?_
  intro v2 E2
  rw [hgI]
  have c0 := E2.bx.c0
  have c1 := E2.bx.c1
  rw [hk] at c0
  have HE2 := Hid.mk E2
  clear E2 HX1 HB1 HLT hgI
  have HPK := Hid.mk (Ni.rpack_any x.pa x.pn x.pc n.p false v2 (HH.out.p.1.at HE2.out.bel) (by omega))
  obtain ⟨pk, hpk⟩ : ∃ pk, (packP n.p false).1 = pk := ⟨_, rfl⟩
  rw [hpk] at HPK
  have HPKE := Hid.mk hpk
  have HPKL := Hid.mk (show pk.length <= 1000 from by
   rw [<- hpk]
   unfold packP
   split
   ·dsimp only; rw [Ni.pack_len]; have := HPL.out; omega
   ·simp)
  obtain ⟨per, hper⟩ : ∃ per : Nat, (packP n.p false).2 = per := ⟨_, rfl⟩
  rw [hper] at HPK
  clear hpk hper
  go_wp2_with fail
  refine HPK.out.mono ?_
  rintro e wP ⟨⟨a', m, c', rfl, hag⟩, hbP⟩
  have hEP := HE2.out.all hbP
  have d2 := hEP.c2
  have df := hEP.fz
  obtain ⟨it, w3, hrun, hb3, hsl, hz4, how4, hpd4⟩ := Zjc hEP hag (by have := hag.l; have := HPKL.out; omega) 107
  have HGB := Hid.mk hEP.sz
  have hE3 := hEP.go hb3
  have f2 := hE3.c2
  have ff := hE3.fz
  have HE4 := Hid.mk (hE3.put it)
  obtain ⟨ja, jm, jc, hit⟩ := hsl
  have HIT := Hid.mk hit
  have HZ4 := Hid.mk hz4
  have HOW4 := Hid.mk how4
  have HPD4 := Hid.mk hpd4
  rw [hit] at hrun
  have HRUN := Hid.mk hrun
  clear hag hbP hrun hb3 hz4 how4 hpd4 hE3 hEP hit c0 c1 HPK HE2
  go_upto_region 13 with (first | refine Zb7 rfl _ _ rfl _ _ rfl rfl HRUN.out ?_)
  rw [<- HIT.out]
  generalize w3.setCell ⟨gI, 2, none⟩ it = u4 at HE4 HZ4 HOW4 HPD4 ⊢
  have g0 := HE4.out.bx.c0
  rw [hk] at g0
  clear d2 df f2 ff HRUN
  go_upto_region 15 with fail
  rename_i KK hkk
  refine wp_region_held_drew (S := fun v' => NBx w.heap.size v' x /\ Below w.heap.size w v') (by kernel_rfl) ⟨⟨HE4.out.bx.row, HE4.out.bx.l⟩, HE4.out.bel.drew⟩ (fun hS => ?_)
  have hE0 := HE4.out.drew
  refine Zal 0 69 (.pointer (some ⟨gI, 2, none⟩)) rfl rfl (by kernel_rfl) (by kernel_rfl) (by kernel_rfl) (fun _ _ _ h => h) (by kernel_rfl) (fun v _ => by kernel_rfl) hS <| Zal 2 71 (.pointer (some ⟨w.heap.size, 3, none⟩)) rfl rfl (by kernel_rfl) (by kernel_rfl) (by kernel_rfl) (fun _ _ _ h => h) (by kernel_rfl) (fun v _ => by kernel_rfl) hS <| Zal 3 72 (.agg x.c.cells.toArray) rfl rfl (by kernel_rfl) (by kernel_rfl) (by kernel_rfl) (fun _ _ _ h => h) (by kernel_rfl) (fun v' hv => Zd7 rfl (by kernel_rfl) HH.out.c.len hv.1.child) hS <| wpAnyH_ready (rs := [1, 4]) (by kernel_rfl) (by simp) ?_
  refine Zba 1 70 it rfl rfl (by kernel_rfl) (Zbe rfl (by kernel_rfl) hE0.c2) hS ?_ ?_
  ·refine wpAnyH_ready (rs := [4]) (by kernel_rfl) (by simp) ?_
   refine Zcd 4 73 rfl rfl (by kernel_rfl) 86 #[.agg x.c.cells.toArray] (by kernel_rfl) (R := fun val w' => Below u4.drew.heap.size u4.drew w' /\ ∃ z : V, val = .agg #[.bool z.l, .slice z.ba z.bn z.bc, .slice z.ia z.m z.ic] /\ LiesP (fun b => u4.drew.heap.size <= b) w' (refItemP n.c) z) ((Zfd K x.c n.c u4.drew (HH.out.c.go (Keep.below hS.2))).mono (fun e w' h => Zbx h (Nat.le_refl _))) (fun val w' h => ⟨hS.1.go h.1, below_go hS.2 h.1⟩) ?_ AllReadyH.nil
   rintro val u1 ⟨hb1, z, rfl, hz⟩
   have hS1 : NBx w.heap.size u1 x /\ Below w.heap.size w u1 := ⟨hS.1.go hb1, below_go hS.2 hb1⟩
   have hE1 := hE0.all hb1
   obtain ⟨v', w3, hrun, hb3, hfull⟩ := Zhv (t := refItemP n.c) (y := z) hE0 HGB.out HZ4.out (Zb5 HOW4.out fun g _ hlt => rfl) HPD4.out.drew hb1 (fun w4 _ h4 => Zbd _ _ (Zap (Q := fun _ => True) (fun b hb hlt => ⟨h4 b hb hlt, trivial⟩) _ _ hz)) 107
   have hE2 : En w (u1.alloc (.cells #[.bool z.l, .slice z.ba z.bn z.bc, .slice z.ia z.m z.ic] 109)) x gI it := hE1.all (below_new _ _)
   have hE3 := hE0.go hb3
   have hE5 := hE3.put v'
   refine wpAnyH_ready (rs := [5]) (by kernel_rfl) (by simp) ?_
   refine Zba 5 74 (.slice (some ⟨u1.heap.size, 0, none⟩) 1 1) rfl rfl (by kernel_rfl) (Zdi rfl z (by kernel_rfl)) ⟨hE2.bx, hE2.bel⟩ ?_ AllReadyH.nil
   refine wpAnyH_ready (rs := [6]) (by kernel_rfl) (by simp) ?_
   refine Zba 6 75 v' rfl rfl (by kernel_rfl) (Zf0 rfl it (.slice (some ⟨u1.heap.size, 0, none⟩) 1 1) (by kernel_rfl) (by kernel_rfl) hrun) ⟨hE3.bx, hE3.bel⟩ ?_ AllReadyH.nil
   refine Zal 7 76 (.pointer (some ⟨gI, 2, none⟩)) rfl rfl (by kernel_rfl) (by kernel_rfl) (by kernel_rfl) (fun _ _ _ h => h) (by kernel_rfl) (fun v _ => by kernel_rfl) ⟨hE3.bx, hE3.bel⟩ <| wpAnyH_ready (rs := [8]) (by kernel_rfl) (by simp) ?_
   refine Zbu 8 rfl rfl (by kernel_rfl) (Zdh rfl gI v' it (by obtain ⟨ia, ic, e, _⟩ := hfull; exact ⟨_, _, _, e⟩) (by kernel_rfl) (by kernel_rfl) hE3.c2 hE3.fz) ⟨hE5.bx, hE5.bel⟩ ?_ AllReadyH.nil
   refine wpAnyH_done (by kernel_rfl) ?_ _
   refine hkk _ _ ?_
   have HE5 := Hid.mk hE5
   obtain ⟨ia, m', ic, hv', hen⟩ := Zfp (n := n) hfull (by simp) (by unfold itemP; rw [H2.out, if_neg (by decide), if_neg (by decide), HPKE.out]) HM.out
   subst hv'
   clear hE5 hE3 hE2 hE1 hE0 hS hS1 hfull hb3 hrun hz hb1 hkk
   generalize w3.setCell ⟨gI, 2, none⟩ (.slice ia m' ic) = u5 at HE5 hen ⊢
   go_frame
   have HEN := Hid.mk hen
   clear hen
   have k0 := HE5.out.c0
   have k1 := HE5.out.c1
   have k2 := HE5.out.c2
   go_wp2_with fail
   refine HEN.out.mono ?_
   rintro e w5 ⟨⟨a, m5, c5, rfl, hag, hnw⟩, hb5⟩
   have HAG := Hid.mk hag
   have HNW := Hid.mk (hnw.mono HE5.out.bel.size)
   have HB5 := Hid.mk (below_go HE5.out.bel hb5)
   clear hag hb5 hnw
   go_wp2_with fail
   go_ret2
   exact ⟨⟨a, m5, c5, rfl, HAG.out, HNW.out⟩, HB5.out⟩
  refine Zcd 4 73 rfl rfl (by kernel_rfl) 86 #[.agg x.c.cells.toArray] (by kernel_rfl) (R := fun val w' => Below u4.drew.heap.size u4.drew w' /\ ∃ z : V, val = .agg #[.bool z.l, .slice z.ba z.bn z.bc, .slice z.ia z.m z.ic] /\ LiesP (fun b => u4.drew.heap.size <= b) w' (refItemP n.c) z) ((Zfd K x.c n.c u4.drew (HH.out.c.go (Keep.below hS.2))).mono (fun e w' h => Zbx h (Nat.le_refl _))) (fun val w' h => ⟨hS.1.go h.1, below_go hS.2 h.1⟩) ?_ AllReadyH.nil
  rintro val u1 ⟨hb1, z, rfl, hz⟩
  have hS1 : NBx w.heap.size u1 x /\ Below w.heap.size w u1 := ⟨hS.1.go hb1, below_go hS.2 hb1⟩
  have hE1 := hE0.all hb1
  obtain ⟨v', w3, hrun, hb3, hfull⟩ := Zhv (t := refItemP n.c) (y := z) hE0 HGB.out HZ4.out (Zb5 HOW4.out fun g _ hlt => rfl) HPD4.out.drew hb1 (fun w4 _ h4 => Zbd _ _ (Zap (Q := fun _ => True) (fun b hb hlt => ⟨h4 b hb hlt, trivial⟩) _ _ hz)) 107
  have hE2 : En w (u1.alloc (.cells #[.bool z.l, .slice z.ba z.bn z.bc, .slice z.ia z.m z.ic] 109)) x gI it := hE1.all (below_new _ _)
  have hE3 := hE0.go hb3
  have hE5 := hE3.put v'
  refine wpAnyH_ready (rs := [1, 5]) (by kernel_rfl) (by simp) ?_
  refine Zba 1 70 it rfl rfl (by kernel_rfl) (Zbe rfl (by kernel_rfl) hE1.c2) hS1 ?_ ?_
  ·refine wpAnyH_ready (rs := [5]) (by kernel_rfl) (by simp) ?_
   refine Zba 5 74 (.slice (some ⟨u1.heap.size, 0, none⟩) 1 1) rfl rfl (by kernel_rfl) (Zdi rfl z (by kernel_rfl)) ⟨hE2.bx, hE2.bel⟩ ?_ AllReadyH.nil
   refine wpAnyH_ready (rs := [6]) (by kernel_rfl) (by simp) ?_
   refine Zba 6 75 v' rfl rfl (by kernel_rfl) (Zf0 rfl it (.slice (some ⟨u1.heap.size, 0, none⟩) 1 1) (by kernel_rfl) (by kernel_rfl) hrun) ⟨hE3.bx, hE3.bel⟩ ?_ AllReadyH.nil
   refine Zal 7 76 (.pointer (some ⟨gI, 2, none⟩)) rfl rfl (by kernel_rfl) (by kernel_rfl) (by kernel_rfl) (fun _ _ _ h => h) (by kernel_rfl) (fun v _ => by kernel_rfl) ⟨hE3.bx, hE3.bel⟩ <| wpAnyH_ready (rs := [8]) (by kernel_rfl) (by simp) ?_
   refine Zbu 8 rfl rfl (by kernel_rfl) (Zdh rfl gI v' it (by obtain ⟨ia, ic, e, _⟩ := hfull; exact ⟨_, _, _, e⟩) (by kernel_rfl) (by kernel_rfl) hE3.c2 hE3.fz) ⟨hE5.bx, hE5.bel⟩ ?_ AllReadyH.nil
   refine wpAnyH_done (by kernel_rfl) ?_ _
   refine hkk _ _ ?_
   have HE5 := Hid.mk hE5
   obtain ⟨ia, m', ic, hv', hen⟩ := Zfp (n := n) hfull (by simp) (by unfold itemP; rw [H2.out, if_neg (by decide), if_neg (by decide), HPKE.out]) HM.out
   subst hv'
   clear hE5 hE3 hE2 hE1 hE0 hS hS1 hfull hb3 hrun hz hb1 hkk
   generalize w3.setCell ⟨gI, 2, none⟩ (.slice ia m' ic) = u5 at HE5 hen ⊢
   go_frame
   have HEN := Hid.mk hen
   clear hen
   have k0 := HE5.out.c0
   have k1 := HE5.out.c1
   have k2 := HE5.out.c2
   go_wp2_with fail
   refine HEN.out.mono ?_
   rintro e w5 ⟨⟨a, m5, c5, rfl, hag, hnw⟩, hb5⟩
   have HAG := Hid.mk hag
   have HNW := Hid.mk (hnw.mono HE5.out.bel.size)
   have HB5 := Hid.mk (below_go HE5.out.bel hb5)
   clear hag hb5 hnw
   go_wp2_with fail
   go_ret2
   exact ⟨⟨a, m5, c5, rfl, HAG.out, HNW.out⟩, HB5.out⟩
  refine Zba 5 74 (.slice (some ⟨u1.heap.size, 0, none⟩) 1 1) rfl rfl (by kernel_rfl) (Zdi rfl z (by kernel_rfl)) ⟨hE2.bx, hE2.bel⟩ ?_ AllReadyH.nil
  refine wpAnyH_ready (rs := [1]) (by kernel_rfl) (by simp) ?_
  refine Zba 1 70 it rfl rfl (by kernel_rfl) (Zbe rfl (by kernel_rfl) hE2.c2) ⟨hE2.bx, hE2.bel⟩ ?_ AllReadyH.nil
  refine wpAnyH_ready (rs := [6]) (by kernel_rfl) (by simp) ?_
  refine Zba 6 75 v' rfl rfl (by kernel_rfl) (Zf0 rfl it (.slice (some ⟨u1.heap.size, 0, none⟩) 1 1) (by kernel_rfl) (by kernel_rfl) hrun) ⟨hE3.bx, hE3.bel⟩ ?_ AllReadyH.nil
  refine Zal 7 76 (.pointer (some ⟨gI, 2, none⟩)) rfl rfl (by kernel_rfl) (by kernel_rfl) (by kernel_rfl) (fun _ _ _ h => h) (by kernel_rfl) (fun v _ => by kernel_rfl) ⟨hE3.bx, hE3.bel⟩ <| wpAnyH_ready (rs := [8]) (by kernel_rfl) (by simp) ?_
  refine Zbu 8 rfl rfl (by kernel_rfl) (Zdh rfl gI v' it (by obtain ⟨ia, ic, e, _⟩ := hfull; exact ⟨_, _, _, e⟩) (by kernel_rfl) (by kernel_rfl) hE3.c2 hE3.fz) ⟨hE5.bx, hE5.bel⟩ ?_ AllReadyH.nil
  refine wpAnyH_done (by kernel_rfl) ?_ _
  refine hkk _ _ ?_
  have HE5 := Hid.mk hE5
  obtain ⟨ia, m', ic, hv', hen⟩ := Zfp (n := n) hfull (by simp) (by unfold itemP; rw [H2.out, if_neg (by decide), if_neg (by decide), HPKE.out]) HM.out
  subst hv'
  clear hE5 hE3 hE2 hE1 hE0 hS hS1 hfull hb3 hrun hz hb1 hkk
  generalize w3.setCell ⟨gI, 2, none⟩ (.slice ia m' ic) = u5 at HE5 hen ⊢
  go_frame
  have HEN := Hid.mk hen
  clear hen
  have k0 := HE5.out.c0
  have k1 := HE5.out.c1
  have k2 := HE5.out.c2
  go_wp2_with fail
  refine HEN.out.mono ?_
  rintro e w5 ⟨⟨a, m5, c5, rfl, hag, hnw⟩, hb5⟩
  have HAG := Hid.mk hag
  have HNW := Hid.mk (hnw.mono HE5.out.bel.size)
  have HB5 := Hid.mk (below_go HE5.out.bel hb5)
  clear hag hb5 hnw
  go_wp2_with fail
  go_ret2
  exact ⟨⟨a, m5, c5, rfl, HAG.out, HNW.out⟩, HB5.out⟩
theorem Zqs (K : Nat -> Prop) (x : NV) (n : PN) (w : World) (h : NodeAt K w x n) (hk : n.k = 1 \/ n.k = 2 \/ n.k = 3) (hd : ∀ r, (r = n.c \/ r ∈ n.ks) -> r.i.length < 32 -> DDSaid r.i) :
  Calls Tryz.prog 59 #[.agg x.cells.toArray] w (EEPost w n) := by
 rcases hk with hk | hk | hk
 ·exact Zte K x n w h hk hd
 ·exact Ztd K x n w h hk hd
 ·exact Ztc K x n w h hk hd
end Go.Proofs.YtefhepcplempkaaGreat
namespace Go.Proofs.YtefhepcplempkaaGreat
open Go.RowKit
set_option maxHeartbeats 4000000 in
theorem Zqr (K : Nat -> Prop) (x : NV) (n : PN) (w : World) (h : NodeAt K w x n) (hq : NR n = false) (hd : ∀ r, (r = n.c \/ r ∈ n.ks) -> r.i.length < 32 -> DDSaid r.i) :
  Calls Tryz.prog 59 #[.agg x.cells.toArray] w (EEPost w n) := by
 have B := Zcp w x h.c.len
 have HB := Hid.mk (below_new w (.cells x.cells.toArray 68))
 have HR1 := Hid.mk (show ∀ v, Below w.heap.size w v -> Calls Tryz.prog 85 #[.agg x.cells.toArray] v fun e w' => e = .returned (.bool false) /\ Below v.heap.size v w' from fun v hv => by
  rw [<- hq]; exact Zfh K x n v (h.go (Keep.below hv)) hd)
 unfold EEPost
 rw [hq]
 clear h hq hd
 go_enter Tryz.func59, Tryz.ntmps59
 go_upto_region 1 with fail
 refine gen_w (p := fun v => Code.wp _ _ _ _ v) (q := fun v => NBx w.heap.size v x /\ Below w.heap.size w v) ⟨B, HB.out⟩ ?_
 clear B HB
 rintro v ⟨B, hb⟩
 have HB := Hid.mk hb
 have HX := Hid.mk B
 clear hb B
 go_wp2_with (first | refine Za8 rfl _ rfl w.heap.size rfl x HX.out ?_)
 refine (HR1.out v HB.out).mono ?_
 rintro e w1 ⟨rfl, hb1⟩
 have HB1 := Hid.mk (below_go HB.out hb1)
 clear hb1 HX HB
 go_wp2_with fail
 go_ret2
 exact ⟨⟨none, 0, 0, rfl, ⟨.inl ⟨rfl, rfl⟩, fun _ => ⟨rfl, rfl⟩, rfl, fun x hx => by cases hx⟩, fun g off h => by cases h⟩, HB1.out⟩
theorem Zf1 (K : Nat -> Prop) (x : NV) (n : PN) (w : World) (h : NodeAt K w x n) (hd : ∀ r, (r = n.c \/ r ∈ n.ks) -> r.i.length < 32 -> DDSaid r.i) :
  Calls Tryz.prog 59 #[.agg x.cells.toArray] w (EEPost w n) := by
 cases hq : NR n with
 | false => exact Zqr K x n w h hq hd
 | true => exact Zqs K x n w h (Zm1 hq) hd
def drefP (t : T) : PR := if t.l = true then ⟨1, z32, (encP t).1⟩ else if t.bs.length = 32 then ⟨2, t.bs, []⟩ else r0
def DRPost (w : World) (r : PR) : Ending -> World -> Prop := fun e w' => (∃ y : RV, e = .returned (.agg y.cells.toArray) /\ RefAt (fun g => w.heap.size < g) w' y r) /\ Below w.heap.size w w'
theorem Zwt {bs : List Int} {j : Nat} (hl : bs.length = 32) (hj : j < 32) : (bs.take j ++ List.replicate (32 - j) 0).set j (bs.getD j 0) = bs.take (j + 1) ++ List.replicate (32 - (j + 1)) 0 := by
 have ht : (bs.take j).length = j := by rw [List.length_take]; omega
 rw [List.set_append_right _ _ (by omega), ht, Nat.sub_self, show 32 - j = (32 - (j + 1)) + 1 from by omega, List.replicate_succ, List.set_cons_zero, List.take_add_one, List.getElem?_eq_getElem (by omega), List.append_assoc]
 simp [List.getD, List.getElem?_eq_getElem (show j < bs.length by omega)]
theorem Zsd {k : Int} {d : List Int} {a : Option Addr} {n c j : Nat} {b : Int} (hj : j < d.length) : (RV.cells ⟨k, d, a, n, c⟩).toArray.setIfInBounds (1 + j) (.int .u8 b) = (RV.cells ⟨k, d.set j b, a, n, c⟩).toArray := by
 rw [List.setIfInBounds_toArray]
 congr 1
 rw [RV.cells, RV.cells, Nat.add_comm 1 j, List.set_cons_succ, List.set_append_left _ _ (by simpa using hj), List.map_set]
set_option maxHeartbeats 4000000 in
theorem Zj4 (t : T) (x : V) (w : World) (h : Lies w t x) :
  Calls Tryz.prog 98 #[.agg #[.bool x.l, .slice x.ba x.bn x.bc, .slice x.ia x.m x.ic]] w (DRPost w (drefP t)) := by
 obtain ⟨l, bs, its⟩ := t
 obtain ⟨hl, hag, -⟩ := lies_eq.1 h
 have hbn : x.bn <= 140737488351232 := (lies_eq.1 h).2.2.2.2.2.1.1
 subst hl
 have HX := Hid.mk h
 have HAG := Hid.mk hag
 obtain ⟨res, hres⟩ : ∃ res, drefP (.mk x.l bs its) = res := ⟨_, rfl⟩
 rw [hres]
 have hres : (if x.l = true then (⟨1, z32, (encP (.mk x.l bs its)).1⟩ : PR) else if bs.length = 32 then ⟨2, bs, []⟩ else r0) = res := hres
 rw [hag.l] at hres
 have HRES := Hid.mk hres
 have HRR := Hid.mk (Zur w x)
 clear h hag hres
 go_enter Tryz.func98, Tryz.ntmps98
 go_upto_region 1 with fail
 refine gen_w (p := fun v => Code.wp _ _ _ _ v) (q := fun v => Rr w v x) HRR.out ?_
 clear HRR
 intro v RR
 have c0 := RR.bx.c0
 have c1 := RR.bx.c1
 have c2 := RR.bx.c2
 have HRR := Hid.mk RR
 clear RR
 by_cases hxl : x.l = true
 ·have hE := Zhm (.mk x.l bs its) x v (Zay HRR.out.bel _ x HX.out)
  have hres := HRES.out
  rw [if_pos hxl] at hres
  have HF := Hid.mk (show (encP (.mk x.l bs its)).1.length <= 16777220 from by
   by_cases hm : (mP (.mk x.l bs its)).2 = 0
   ·rw [Zeo hm]; exact Zu7 hm
   ·rw [Zmw hm]; simp)
  obtain ⟨en, hen⟩ : ∃ en, (encP (.mk x.l bs its)).1 = en := ⟨_, rfl⟩
  rw [hen] at hE HF hres
  subst hres
  obtain ⟨er, her⟩ : ∃ er, (encP (.mk x.l bs its)).2 = er := ⟨_, rfl⟩
  rw [her] at hE
  clear hen her
  rw [hxl] at c0 hE
  have HE2 := Hid.mk hE
  clear hE HRES
  go_wp2_with fail
  refine HE2.out.mono ?_
  rintro e w1 ⟨⟨a, n, c, rfl, hag, hnw⟩, hb⟩
  have R1 := HRR.out.go hb
  have HAGK := Hid.mk (show AgK (fun g => w.heap.size + 2 <= g) w1 a n c en from ⟨hag, by have := hag.l; have := HF.out; omega, fun g off e _ => by have := hnw (by first | exact trivial | rfl) g off e; have := HRR.out.sz; omega⟩)
  have HR1 := Hid.mk R1
  have hl32 : z32.length = 32 := rfl
  clear hag hb R1 hnw
  go_wp2_with (first | refine wpList_store_row rfl 65 _ _ rfl _ (RV.cells ⟨1, z32, a, n, c⟩).toArray rfl rfl 65 _ HR1.out.row (Zcg rfl) (Zb6 rfl) (all_oneCell_toArray (RV.one _)) ?_)
  refine bodyPost_ret (results_cell_row Tryz.results98 _ _ (w.heap.size + 1) 65 _ (0, 0) _ rfl (setRow_heap _ _ _ _ _ _ HR1.out.row) Tryz.underlying65 rfl (Zcg (y := ⟨1, z32, a, n, c⟩) rfl)) rfl ?_
  exact ⟨⟨⟨1, z32, a, n, c⟩, rfl, rfl, rfl, Zmt, rfl, HAGK.out.go (fun g hK _ => ⟨setRow_other _ _ _ _ (by omega), by omega⟩)⟩, Below.setRow HR1.out.bel (by omega) _⟩
 ·have hres := HRES.out
  rw [if_neg hxl] at hres
  have hxf : x.l = false := by simpa using hxl
  rw [hxf] at c0
  clear hxf hxl HRES HX
  by_cases h32 : x.bn = 32
  ·rw [if_pos h32] at hres
   subst hres
   have hz := HAG.out
   rw [h32] at hz c1
   obtain ⟨g, off, hba, hnc, hcm, hcs⟩ := ag_head hz (by omega)
   unfold maxLen at hcm
   rw [hba] at c1
   have HBL := Hid.mk hz.l
   have HBB := Hid.mk hz.b
   have HCS := Hid.mk (show ∀ u, Below w.heap.size w u -> ∀ j, j < 32 -> u.cell? ⟨g, off + j, none⟩ = some (.int .u8 (bs.getD j 0)) from fun u hu j hj => Zaf hu (hcs j hj))
   have HRB := Hid.mk hba
   have HR32 := Hid.mk h32
   have HVS := Hid.mk HRR.out.sz
   clear hz hcs h32 hba
   go_upto_region 6 with (first | refine wpList_store_row rfl 65 _ _ rfl _ (RV.cells ⟨2, z32, none, 0, 0⟩).toArray rfl rfl 65 _ (heap_alloc_new _ _) (Zcg rfl) (Zb6 rfl) (all_oneCell_toArray (RV.one _)) ?_)
   obtain ⟨gB, hgB⟩ : ∃ gB, v.heap.size = gB := ⟨_, rfl⟩
   refine gen_w (p := fun v => Code.wp _ _ _ _ v) (q := fun u => RBx gB u ⟨2, z32, none, 0, 0⟩ /\ Rr w u x) ⟨⟨by rw [<- hgB]; exact setRow_heap _ _ _ _ _ _ (heap_alloc_new _ _), rfl⟩, HRR.out.go (Below.setRow (below_new v _) (Nat.le_refl _) _)⟩ ?_
   rintro u0 ⟨B2, R2⟩
   rw [hgB] at HVS ⊢
   have HB0 := Hid.mk B2
   have HR0 := Hid.mk R2
   clear B2 R2 hgB c0 c1 c2 HRR
   go_wp2_with fail
   go_loopw [6] (fun s6 u => ∃ j : Nat, j <= 32 /\ s6 = .int .i64 j /\ RBx gB u ⟨2, bs.take j ++ List.replicate (32 - j) 0, none, 0, 0⟩ /\ Rr w u x) (fun s6 _ => 32 - (intOf s6).toNat)
   case atStart => exact ⟨0, by omega, rfl, HB0.out, HR0.out⟩
   case round =>
    obtain ⟨j, hj, rfl, hB, hR⟩ := hrel
    have HB := Hid.mk hB
    have HR := Hid.mk hR
    clear hB hR HB0 HR0
    by_cases hlt : j < 32
    ·have hji : (j : Int) < 32 := by omega
     have d1 := HR.out.bx.c1
     rw [HRB.out, HR32.out] at d1
     have hc := HCS.out _ HR.out.bel j hlt
     have hf := HB.out.fz
     obtain ⟨old, hold⟩ : ∃ old, wr.cell? ⟨gB, 1 + j, none⟩ = some old := by
      rw [HB.out.at]
      exact ⟨_, List.getElem?_eq_getElem (by rw [RV.len HB.out.l]; omega)⟩
     have HPUT := Hid.mk (show RBx gB (wr.setCell ⟨gB, 1 + j, none⟩ (.int .u8 (bs.getD j 0))) ⟨2, bs.take (j + 1) ++ List.replicate (32 - (j + 1)) 0, none, 0, 0⟩ from by
      have hll := HB.out.l
      have e := heap_setCell_same wr gB (1 + j) _ 65 (.int .u8 (bs.getD j 0)) HB.out.row
      rw [Zsd (d := bs.take j ++ List.replicate (32 - j) 0) (Nat.lt_of_lt_of_eq hlt hll.symm), Zwt HBL.out hlt] at e
      exact ⟨e, by show (bs.take (j + 1) ++ List.replicate (32 - (j + 1)) 0).length = 32; rw [List.length_append, List.length_take, List.length_replicate, HBL.out]; omega⟩)
     have HRP := Hid.mk (show Rr w (wr.setCell ⟨gB, 1 + j, none⟩ (.int .u8 (bs.getD j 0))) x from by
      have hv := HVS.out
      have ho : ∀ k, k ≠ gB -> (wr.setCell ⟨gB, 1 + j, none⟩ (.int .u8 (bs.getD j 0))).heap[k]? = wr.heap[k]? := fun k hk => heap_setCell_other _ _ _ _ hk
      have hcl : ∀ o, (wr.setCell ⟨gB, 1 + j, none⟩ (.int .u8 (bs.getD j 0))).cell? ⟨w.heap.size, o, none⟩ = wr.cell? ⟨w.heap.size, o, none⟩ := fun o => World.cell?_of_block (ho w.heap.size (by omega))
      exact ⟨(ho _ (by omega)).trans HR.out.row, ⟨(hcl _).trans HR.out.bx.c0, (hcl _).trans HR.out.bx.c1, (hcl _).trans HR.out.bx.c2⟩, HR.out.bel.setCell (by show w.heap.size <= gB; omega) _, by simpa using HR.out.sz⟩)
     have hjl : j < bs.length := by have := HBL.out; omega
     have hbb := HBB.out (bs.getD j 0) (by simp [List.getD, List.getElem?_eq_getElem hjl])
     clear hjl
     generalize bs.getD j 0 = bj at hc HPUT HRP hbb
     go_wp2_with fail
     exact ⟨⟨j + 1, by omega, by simp, HPUT.out, HRP.out⟩, by simp [intOf]; omega⟩
    ·have hji : ¬ (j : Int) < 32 := by omega
     have hB := HB.out
     have hj32 : j = 32 := by omega
     subst hj32
     rw [show bs.take 32 ++ List.replicate (32 - 32) 0 = bs from by rw [List.take_of_length_le (by rw [HBL.out]; omega)]; simp] at hB
     have HB3 := Hid.mk hB
     clear hB HB
     go_wp2_with (first | refine Za3 rfl _ rfl gB 0 rfl ⟨2, bs, none, 0, 0⟩ HBL.out HB3.out.all ?_ | refine wpList_store_row rfl 65 _ _ rfl _ (RV.cells ⟨2, bs, none, 0, 0⟩).toArray rfl rfl 65 _ HR.out.row (Zcg HBL.out) (Zb6 HBL.out) (all_oneCell_toArray (RV.one _)) ?_)
     refine bodyPost_ret (results_cell_row Tryz.results98 _ _ (w.heap.size + 1) 65 _ (0, 0) _ rfl (setRow_heap _ _ _ _ _ _ HR.out.row) Tryz.underlying65 rfl (Zcg (y := ⟨2, bs, none, 0, 0⟩) HBL.out)) rfl ?_
     exact ⟨⟨⟨2, bs, none, 0, 0⟩, rfl, rfl, rfl, HBB.out, HBL.out, Ze8 _ _⟩, Below.setRow HR.out.bel (by omega) _⟩
  ·rw [if_neg h32] at hres
   subst hres
   have h32i : ¬ (x.bn : Int) = 32 := by omega
   go_wp2_with (first | refine wpList_store_row rfl 65 _ _ rfl _ rz.cells.toArray rfl rfl 65 _ HRR.out.row (Zcg rfl) (Zb6 rfl) (all_oneCell_toArray (RV.one _)) ?_)
   refine bodyPost_ret (results_cell_row Tryz.results98 _ _ (w.heap.size + 1) 65 _ (0, 0) _ rfl (setRow_heap _ _ _ _ _ _ HRR.out.row) Tryz.underlying65 rfl (Zcg (y := rz) rfl)) rfl ?_
   exact ⟨⟨rz, rfl, Zcw _ _⟩, Below.setRow HRR.out.bel (by omega) _⟩
theorem Zoo (w : World) (r : RV) (hl : r.d.length = 32) : (Instr.buildSlice 66 1 #[(0, .agg r.cells.toArray)]).run Tryz.prog w = .ok (.slice (some ⟨w.heap.size, 0, none⟩) 1 1) (w.alloc (.cells r.cells.toArray 65)) := by
 obtain ⟨i, hi, hz, hsz, hby⟩ := Zro
 refine run_buildSlice w 66 65 1 _ r.cells.toArray i _ Tryz.underlying66 hi hz (by rw [hsz]; omega) (by rw [hsz]; omega) ?_
 rw [hsz]
 have h := Great.fill_whole (s := 34) (by omega) [.agg r.cells.toArray] ((Array.range (1 * 34)).map ((Value.agg rz.cells.toArray).cells[· % (Value.agg rz.cells.toArray).cells.size]!)) (fun v hv => by
  simp only [List.mem_cons, List.not_mem_nil, or_false] at hv
  subst hv
  show r.cells.toArray.size = 34
  rw [List.size_toArray, RV.len hl]) (by simp)
 refine h.trans ?_
 simp [Value.cells]
theorem Zhp {a : Act} {w : World} {x : Operand} {o : Oper} (ho : o.op = .buildSlice 66 1 #[(0, x)]) (r : RV) (hl : r.d.length = 32) (hx : a.eval x = .agg r.cells.toArray) :
  (execOp a.eval o).run Tryz.prog w = .ok (.value (.slice (some ⟨w.heap.size, 0, none⟩) 1 1)) (w.alloc (.cells r.cells.toArray 65)) := by
 unfold execOp
 rw [ho]
 simp only [List.map_toArray, List.map_cons, List.map_nil, hx, Sem.run_bind, Zoo w r hl, Result.andThen_ok, Sem.run_pure]
theorem Zqq {a : Act} {w w' : World} {s x : Operand} {o : Oper} (ho : o.op = .call { callee := .builtin .append, args := #[s, x], argTypes := #[66, 66] }) (v u : Value) (hd : a.eval s = v) (hx : a.eval x = u) {v' : Value}
  (hr : (Builtin.append_ #[66, 66] o.type #[v, u]).run Tryz.prog w = .ok v' w') : (execOp a.eval o).run Tryz.prog w = .ok (.value v') w' := by
 simp [execOp, ho, resolve, invoke, builtin, hd, hx, hr, Result.andThen]
end Go.Proofs.YtefhepcplempkaaGreat

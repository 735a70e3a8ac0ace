/- What pathNode answers. -/
import Derived.Test.YtdkpilgelgjieaaGreatG14
import Derived.Test.YtdkpilgelgjieaaGreatG12
import Derived.Test.YtdkpilgelgjieaaGreatG05
import Derived.Lib.SlBytesConst
import Derived.Test.YtdkpilgelgjieaaGreatG01
import Derived.Test.YtdkpilgelgjieaaGreatG02
set_option linter.unusedVariables false
set_option maxRecDepth 100000
namespace Go.Proofs.YtdkpilgelgjieaaGreat
open Go.RowKit
open Ni (unpP)
theorem Zaq {fn : Func} {p u : Tmp} (h : fn.results = #[.cell p 104, .tmp u]) (tmps : Array Value) (w : World) (g : Nat) (y : NV) (hl : y.c.d.length = 32) (hp : tmps.getD p undef = .pointer (some ⟨g, 0, none⟩)) (hg : w.heap[g]? = some (.cells y.cells.toArray 104)) :
  (results fn tmps).run Tryz.prog w = .ok (.tuple #[.agg y.cells.toArray, tmps.getD u undef]) w := by
 have hp' : tmps[p]?.getD undef = .pointer (some ⟨g, 0, none⟩) := by simpa using hp
 have hr := run_loadVar_row (P := Tryz.prog) w g 104 104 y.cells.toArray (0, 0) _ hg Tryz.underlying104 rfl (by rw [Zge, List.size_toArray, NV.len hl])
 simp [results, h, hp', asAddr, hr]
theorem Zew {fn : Func} {p u : Tmp} (h : fn.results = #[.cell p 104, .tmp u]) {post : Ending -> World -> Prop} {Q : Exit -> Act -> World -> Prop} {a : Act} {w : World} (hQ : bodyPost Tryz.prog fn post .ret a w -> Q .ret a w) (g : Nat) (y : NV) (vv : Value) (hl : y.c.d.length = 32)
  (hp : a.tmps.getD p undef = .pointer (some ⟨g, 0, none⟩)) (hu : a.tmps.getD u undef = vv) (hd : a.defers = []) (hg : w.heap[g]? = some (.cells y.cells.toArray 104)) (hpost : post (.returned (.tuple #[.agg y.cells.toArray, vv])) w) :
  Code.wp Tryz.prog .ret Q a w := by
 subst hu
 exact wp_ret (hQ <| bodyPost_ret (Zaq h a.tmps w g y hl hp hg) hd hpost)
def OwnP (P : Nat -> Prop) (w : World) (g : Nat) : Prop := P g /\ ∀ o, w.frozen? ⟨g, o, none⟩ = false
theorem Keep.setRowP {P : Nat -> Prop} {base g : Nat} {v : World} {C : Array Value} (hg : g < base) (hP : ∀ k, base <= k -> P k) : Keep (Own base v) (OwnP P (v.setRow g C)) v (v.setRow g C) := fun k hK hk => by
 have e : (v.setRow g C).heap[k]? = v.heap[k]? := setRow_other _ _ _ _ (by have := hK.1; omega)
 exact ⟨e, hP k hK.1, fun o => (World.frozen?_of_block (w := v) e).trans (hK.2 o)⟩
def NPost (P : Nat -> Prop) (w : World) (o : Option PN) : Ending -> World -> Prop := fun e w' => Below w.heap.size w w' ∧
 match o with
 | none => ∃ y : NV, y.c.d.length = 32 /\ e = .returned (.tuple #[.agg y.cells.toArray, .bool false])
 | some n => ∃ y : NV, e = .returned (.tuple #[.agg y.cells.toArray, .bool true]) /\ NodeAt (OwnP P w') w' y n
theorem Za6 {y : NV} (h : y.c.d.length = 32) : (nz.cells.toArray : Array Value).size = y.cells.toArray.size := by rw [List.size_toArray, List.size_toArray, NV.len h]; rfl
theorem Zbe {y : NV} (h : y.c.d.length = 32) : (Tryz.prog.info? 104).map (·.size) = some y.cells.toArray.size := by rw [Zge, List.size_toArray, NV.len h]
structure Pn (w v : World) (x y : V) : Prop where
 row : v.heap[w.heap.size + 1 + 1]? = some (.cells nz.cells.toArray 104)
 bx : B1 w.heap.size v x
 by' : B1 (w.heap.size + 1) v y
 bel : Below w.heap.size w v
 sz : w.heap.size + 3 <= v.heap.size
theorem Pn.go {w v v' : World} {x y : V} (h : Pn w v x y) (hb : Below v.heap.size v v') : Pn w v' x y := ⟨Below.row hb h.row, h.bx.go hb, h.by'.go hb, below_go h.bel hb, Nat.le_trans h.sz hb.size⟩
theorem Zzb (w : World) (x y : V) : Pn w (((w.alloc (.cells #[.bool x.l, .slice x.ba x.bn x.bc, .slice x.ia x.m x.ic] 94)).alloc (.cells #[.bool y.l, .slice y.ba y.bn y.bc, .slice y.ia y.m y.ic] 94)).alloc (.cells nz.cells.toArray 104)) x y := by
 generalize hw1 : w.alloc (.cells #[.bool x.l, .slice x.ba x.bn x.bc, .slice x.ia x.m x.ic] 94) = w1
 have s1 : w1.heap.size = w.heap.size + 1 := by rw [<- hw1]; simp
 have b1 : B1 w.heap.size w1 x := by rw [<- hw1]; exact Zcy w x
 have l1 : Below w.heap.size w w1 := by rw [<- hw1]; exact below_new w _
 have b2 := Zcy w1 y
 rw [s1] at b2
 generalize hw2 : w1.alloc (.cells #[.bool y.l, .slice y.ba y.bn y.bc, .slice y.ia y.m y.ic] 94) = w2 at b2 ⊢
 have s2 : w2.heap.size = w.heap.size + 1 + 1 := by rw [<- hw2]; simp [s1]
 have l2 : Below w1.heap.size w1 w2 := by rw [<- hw2]; exact below_new w1 _
 refine ⟨?_, (b1.go l2).alloc _, b2.alloc _, below_go (below_go l1 l2) (below_new _ _), by simp [s2]⟩
 rw [<- s2]
 exact heap_alloc_new _ _
theorem Zyj {base m : Nat} {w w0 : World} {a : Option Addr} {bs : List Int} (h : Ni.Cut w base a m bs) (hm : m <= 140737488351232) : AgK (Own base w) w a m m bs := ⟨h.ag, hm, fun g off e h0 => by
 obtain ⟨g', off', cur, e', hb, hr⟩ := h.own h0
 rw [e] at e'
 cases e'
 exact ⟨hb, fun o => frozen_of_row _ _ _ _ _ hr⟩⟩
theorem Zfv {P : Nat -> Prop} {w : World} {l : Bool} {bs : List Int} {its : List T} {y : V} (h : LiesP P w (.mk l bs its) y) : AgK (OwnP P w) w y.ba y.bn y.bc bs := by
 obtain ⟨⟨_, h2, _, _, _, h6, h8⟩, _⟩ := liesP_eq.1 h
 exact ⟨h2, h6.1, fun g off e h0 => h8 g off e h0⟩
theorem Zb2 {g h : Nat} {v : World} {y : V} {C : Array Value} (b : B1 g v y) (hne : g ≠ h) : B1 g (v.setRow h C) y := by
 have e : (v.setRow h C).heap[g]? = v.heap[g]? := setRow_other _ _ _ _ hne
 exact ⟨(World.cell?_of_block (w := v) e).trans b.c0, (World.cell?_of_block (w := v) e).trans b.c1, (World.cell?_of_block (w := v) e).trans b.c2⟩
theorem Zhl (K : Nat -> Prop) (w : World) (a : Option Addr) : KidsAt K w a [] := fun j r hr => by simp at hr
set_option maxHeartbeats 4000000 in
theorem Zl4 (P : Nat -> Prop) (t u : T) (x y : V) (w : World) (hx : Lies w t x) (hy : LiesP P w u y) (hb : ∀ g, w.heap.size <= g -> P g) (hxn : t.bs.length <= 16777216) :
  Calls Tryz.prog 124 #[.agg #[.bool x.l, .slice x.ba x.bn x.bc, .slice x.ia x.m x.ic], .agg #[.bool y.l, .slice y.ba y.bn y.bc, .slice y.ia y.m y.ic]] w (NPost P w (pathP t u)) := by
 obtain ⟨l, bs, its⟩ := t
 obtain ⟨l2, bs2, its2⟩ := u
 obtain ⟨hl, hag, -⟩ := lies_eq.1 hx
 obtain ⟨⟨hl2, -⟩, -⟩ := liesP_eq.1 hy
 subst hl hl2
 have hxn : bs.length <= 16777216 := hxn
 have HAG := Hid.mk hag
 have HY := Hid.mk hy
 have HBASE := Hid.mk hb
 have HU := Hid.mk (show ∀ v, Below w.heap.size w v -> Calls Tryz.prog 128 #[.slice x.ba x.bn x.bc] v fun e w' => (∃ a' m, e = .returned (.tuple #[.slice a' m m, .bool (unpP bs).2.1, .int .i64 ((unpP bs).2.2 : Nat)]) /\ Ni.Cut w' v.heap.size a' m (unpP bs).1) /\ Below v.heap.size v w' from fun v hv => Ni.unpack_any _ _ _ _ v (hag.at hv) (by have := hag.l; omega))
 have HPL := Hid.mk (Ni.unp_le bs)
 have HXN := Hid.mk hxn
 obtain ⟨res, hres⟩ : ∃ res, pathP (.mk x.l bs its) (.mk y.l bs2 its2) = res := ⟨_, rfl⟩
 rw [hres]
 have hres : (if x.l = true \/ (unpP bs).2.2 ≠ 0 then none
  else if (unpP bs).2.1 = true then (if y.l = true then none else some (⟨1, (unpP bs).1, bs2, r0, []⟩ : PN))
  else match refOfP (.mk y.l bs2 its2) with
   | none => none
   | some c => some ⟨2, (unpP bs).1, [], c, []⟩) = res := hres
 obtain ⟨pp, hpp⟩ : ∃ pp, (unpP bs).1 = pp := ⟨_, rfl⟩
 obtain ⟨lf, hlf⟩ : ∃ lf, (unpP bs).2.1 = lf := ⟨_, rfl⟩
 obtain ⟨er, her⟩ : ∃ er, (unpP bs).2.2 = er := ⟨_, rfl⟩
 rw [hpp, hlf, her] at hres
 rw [hpp, hlf, her] at HU
 rw [hpp] at HPL
 have HRES := Hid.mk hres
 have HPN := Hid.mk (Zzb w x y)
 clear hx hy hag hb hxn hres hpp hlf her
 go_enter Tryz.func124, Tryz.ntmps124
 go_upto_region 1 with fail
 refine gen_w (p := fun v => Code.wp _ _ _ _ v) (q := fun v => Pn w v x y) HPN.out ?_
 clear HPN
 intro v P0
 have c1 := P0.bx.c1
 have HP0 := Hid.mk P0
 clear P0
 go_wp2_with fail
 refine (HU.out v HP0.out.bel).mono ?_
 rintro e w1 ⟨⟨a', m, rfl, hcut⟩, hb1⟩
 have P1 := HP0.out.go hb1
 have HM := Hid.mk (show m <= 140737488351232 from by have := hcut.ag.l; have := HPL.out; have := HXN.out; omega)
 have HPA := Hid.mk (Zyj (w0 := w) hcut HM.out)
 have HVS := Hid.mk HP0.out.sz
 have c0 := P1.bx.c0
 have d0 := P1.by'.c0
 have d1 := P1.by'.c1
 have d2 := P1.by'.c2
 have HP1 := Hid.mk P1
 clear hcut hb1 P1 c1 HP0 HU
 by_cases hbad : x.l = true \/ er ≠ 0
 ·have hr := HRES.out
  rw [if_pos hbad] at hr
  subst hr
  by_cases hxl : x.l = true
  ·rw [hxl] at c0
   go_wp2_with (first | refine wpList_store_row rfl 104 _ _ rfl _ nz.cells.toArray rfl rfl 104 _ HP1.out.row (Zbe rfl) (Za6 rfl) (all_oneCell_toArray (NV.one _)) ?_)
   refine bodyPost_ret (Zaq Tryz.results124 _ _ (w.heap.size + 1 + 1) nz rfl rfl (setRow_heap _ _ _ _ _ _ HP1.out.row)) rfl ?_
   exact ⟨Below.setRow HP1.out.bel (by omega) _, nz, rfl, rfl⟩
  ·have hxf : x.l = false := by simpa using hxl
   have hee : ((er : Int) != 0) = true := by rw [bne_iff_ne]; have := hbad.resolve_left hxl; omega
   rw [hxf] at c0
   clear hxl hbad hxf
   go_wp2_with (first | refine wpList_store_row rfl 104 _ _ rfl _ nz.cells.toArray rfl rfl 104 _ HP1.out.row (Zbe rfl) (Za6 rfl) (all_oneCell_toArray (NV.one _)) ?_)
   refine bodyPost_ret (Zaq Tryz.results124 _ _ (w.heap.size + 1 + 1) nz rfl rfl (setRow_heap _ _ _ _ _ _ HP1.out.row)) rfl ?_
   exact ⟨Below.setRow HP1.out.bel (by omega) _, nz, rfl, rfl⟩
 ·have hr := HRES.out
  rw [if_neg hbad] at hr
  have hxf : x.l = false := by cases hq : x.l with
   | false => rfl
   | true => exact absurd (.inl hq) hbad
  have he0 : er = 0 := Decidable.byContradiction fun h => hbad (.inr h)
  subst he0
  rw [hxf] at c0
  rw [show ((0 : Nat) : Int) = 0 from rfl]
  clear hxf hbad HRES
  cases lf with
  | true =>
   rw [if_pos rfl] at hr
   have HR := Hid.mk hr
   clear hr
   go_upto_region 5 with fail
   rename_i KK hkk
   refine wp_region_held_drew (S := fun v => B1 (w.heap.size + 1) v y) (by kernel_rfl) ⟨HP1.out.by'.c0, HP1.out.by'.c1, HP1.out.by'.c2⟩ (fun hS => ?_)
   refine Zaj 0 26 (.slice a' m m) rfl rfl (by kernel_rfl) (by kernel_rfl) (by kernel_rfl) (fun _ _ _ h => h) (by kernel_rfl) (fun v _ => by kernel_rfl) hS <| Zaj 1 27 (.pointer (some ⟨w.heap.size + 1, 1, none⟩)) rfl rfl (by kernel_rfl) (by kernel_rfl) (by kernel_rfl) (fun _ _ _ h => h) (by kernel_rfl) (fun v _ => by kernel_rfl) hS <| Zaj 2 28 (.slice y.ba y.bn y.bc) rfl rfl (by kernel_rfl) (by kernel_rfl) (by kernel_rfl) (fun _ _ _ h => h) (by kernel_rfl) (fun v hv => Zd1 rfl (by kernel_rfl) hv.c1) hS <| Zaj 3 29 (.agg (NV.cells ⟨1, a', m, m, y.ba, y.bn, y.bc, rz, none, 0, 0⟩).toArray) rfl rfl (by kernel_rfl) (by kernel_rfl) (by kernel_rfl) (fun _ _ _ h => h) (by kernel_rfl) (fun v _ => Zb9 104 _ rfl [(0, .int .i64 1), (1, .slice a' m m), (2, .slice y.ba y.bn y.bc)] (by kernel_rfl) _ (Zho _ _ _ _ _ _)) hS <| Zaj 4 30 (.pointer (some ⟨w.heap.size + 1, 0, none⟩)) rfl rfl (by kernel_rfl) (by kernel_rfl) (by kernel_rfl) (fun _ _ _ h => h) (by kernel_rfl) (fun v _ => by kernel_rfl) hS <| Zaj 5 31 (.bool y.l) rfl rfl (by kernel_rfl) (by kernel_rfl) (by kernel_rfl) (fun _ _ _ h => h) (by kernel_rfl) (fun v hv => Zog rfl (by kernel_rfl) hv.c0) hS <| Zaj 6 32 (.bool (!y.l)) rfl rfl (by kernel_rfl) (by kernel_rfl) (by kernel_rfl) (fun _ _ _ h => h) (by kernel_rfl) (fun v _ => by kernel_rfl) hS <| wpAnyH_ready (rs := [7]) (by kernel_rfl) (by simp) ?_
   refine Zbz 7 rfl rfl (by kernel_rfl) (Zbs 104 _ _ rfl (w.heap.size + 1 + 1) (NV.cells ⟨1, a', m, m, y.ba, y.bn, y.bc, rz, none, 0, 0⟩).toArray (by kernel_rfl) (by kernel_rfl) 104 nz.cells.toArray HP1.out.row (Zbe rfl) (Za6 rfl) (all_oneCell_toArray (NV.one _))) ?_ ?_ AllReadyH.nil
   ·exact Zb2 hS (by omega)
   refine Zaj 8 5 (.bool (!y.l)) rfl rfl (by kernel_rfl) (by kernel_rfl) (by kernel_rfl) (fun _ _ _ h => h) (by kernel_rfl) (fun v _ => by kernel_rfl) (Zb2 hS (by omega)) ?_
   refine wpAnyH_done (by kernel_rfl) ?_ _
   refine hkk _ _ <| Zew Tryz.results124 (fun h => h) (w.heap.size + 1 + 1) ⟨1, a', m, m, y.ba, y.bn, y.bc, rz, none, 0, 0⟩ (.bool (!y.l)) rfl (by kernel_rfl) (by kernel_rfl) (by kernel_rfl) (setRow_heap _ _ _ _ _ _ HP1.out.row) ?_
   have hr := HR.out
   refine ⟨Below.setRow HP1.out.bel.drew (by omega) _, ?_⟩
   cases hyl : y.l with
   | true =>
    rw [hyl, if_pos rfl] at hr
    subst hr
    exact ⟨⟨1, a', m, m, y.ba, y.bn, y.bc, rz, none, 0, 0⟩, rfl, rfl⟩
   | false =>
    rw [hyl, if_neg (by simp)] at hr
    subst hr
    have hk1 : Keep (Own v.heap.size w1) (OwnP P (w1.drew.setRow (w.heap.size + 1 + 1) (NV.cells ⟨1, a', m, m, y.ba, y.bn, y.bc, rz, none, 0, 0⟩).toArray)) w1 (w1.drew.setRow (w.heap.size + 1 + 1) (NV.cells ⟨1, a', m, m, y.ba, y.bn, y.bc, rz, none, 0, 0⟩).toArray) :=
     Keep.setRowP (v := w1.drew) (base := v.heap.size) (by have := HVS.out; omega) (fun k hk => HBASE.out k (by have := HVS.out; omega))
    have hk2 : Keep (OwnP P w) (OwnP P (w1.drew.setRow (w.heap.size + 1 + 1) (NV.cells ⟨1, a', m, m, y.ba, y.bn, y.bc, rz, none, 0, 0⟩).toArray)) w (w1.drew.setRow (w.heap.size + 1 + 1) (NV.cells ⟨1, a', m, m, y.ba, y.bn, y.bc, rz, none, 0, 0⟩).toArray) := fun k hK hk => by
     have e : ((w1.drew.setRow (w.heap.size + 1 + 1) (NV.cells ⟨1, a', m, m, y.ba, y.bn, y.bc, rz, none, 0, 0⟩).toArray)).heap[k]? = w.heap[k]? := (setRow_other _ _ _ _ (by omega)).trans (HP1.out.bel.block k hk)
     exact ⟨e, hK.1, fun o => (World.frozen?_of_block (w := w) e).trans (hK.2 o)⟩
    exact ⟨⟨1, a', m, m, y.ba, y.bn, y.bc, rz, none, 0, 0⟩, rfl, rfl, HPA.out.go hk1, (Zfv HY.out).go hk2, Zc1 _ _, ⟨rfl, Nat.zero_le _, Nat.zero_le _, Nat.zero_le _, fun _ => ⟨rfl, rfl⟩⟩, Zhl _ _ _⟩
  | false =>
   rw [if_neg (by simp)] at hr
   have HR := Hid.mk hr
   have HRO := Hid.mk (Zlz (.mk y.l bs2 its2) y w1 (Zaw HP1.out.bel _ y (Zbg _ _ HY.out)))
   clear hr
   go_wp2_with fail
   refine HRO.out.mono ?_
   intro e w2 hp
   obtain ⟨hb2, hp⟩ := hp
   have HP2 := Hid.mk (HP1.out.go hb2)
   have HW1 := Hid.mk HP1.out.sz
   have hr := HR.out
   cases hq : refOfP (.mk y.l bs2 its2) with
   | none =>
    rw [hq] at hp hr
    subst hr
    obtain ⟨y', hyl', rfl⟩ := hp
    have HYL := Hid.mk hyl'
    clear hb2 hq hyl'
    go_upto_region 7 with (first | refine wpList_store_row rfl 60 _ _ rfl _ y'.cells.toArray rfl rfl 60 _ (heap_alloc_new _ _) (Zb1 HYL.out) (Zbr HYL.out) (all_oneCell_toArray (RV.one _)) ?_)
    refine gen_w (p := fun v => Code.wp _ _ _ _ v) (q := fun u => RBx w2.heap.size u y' /\ Pn w u x y) ⟨⟨setRow_heap _ _ _ _ _ _ (heap_alloc_new _ _), HYL.out⟩, HP2.out.go (Below.setRow (below_new w2 _) (Nat.le_refl _) _)⟩ ?_
    rintro v3 ⟨B3, P3⟩
    have HB3 := Hid.mk B3
    have HP3 := Hid.mk P3
    clear B3 P3
    rename_i KK hkk
    refine wp_region_lit <| Zal 38 (.slice a' m m) rfl (by kernel_rfl) (by kernel_rfl) <| Zal 39 (.agg y'.cells.toArray) rfl (by kernel_rfl) (Zec rfl (by kernel_rfl) HYL.out HB3.out.all) <| Zal 40 (.agg (NV.cells ⟨2, a', m, m, none, 0, 0, y', none, 0, 0⟩).toArray) rfl (by kernel_rfl) (Zb9 104 _ rfl [(0, .int .i64 2), (1, .slice a' m m), (3, .agg y'.cells.toArray)] (by kernel_rfl) _ (Zf4 _ _ _ _ HYL.out)) <| Zal 41 (.bool false) rfl (by kernel_rfl) (by kernel_rfl) <| Zdy rfl (by kernel_rfl) (Zbs 104 _ _ rfl (w.heap.size + 1 + 1) (NV.cells ⟨2, a', m, m, none, 0, 0, y', none, 0, 0⟩).toArray (by kernel_rfl) (by kernel_rfl) 104 nz.cells.toArray HP3.out.row (Zbe HYL.out) (Za6 HYL.out) (all_oneCell_toArray (NV.one _))) <| Zal 5 (.bool false) rfl (by kernel_rfl) (by kernel_rfl) <| hkk _ _ <| Zew Tryz.results124 (fun h => h) (w.heap.size + 1 + 1) ⟨2, a', m, m, none, 0, 0, y', none, 0, 0⟩ (.bool false) HYL.out (by kernel_rfl) (by kernel_rfl) (by kernel_rfl) (setRow_heap _ _ _ _ _ _ HP3.out.row) ?_
    exact ⟨Below.setRow HP3.out.bel (by omega) _, ⟨2, a', m, m, none, 0, 0, y', none, 0, 0⟩, HYL.out, rfl⟩
   | some c =>
    rw [hq] at hp hr
    subst hr
    obtain ⟨y', rfl, hy'⟩ := hp
    have HYL := Hid.mk hy'.len
    have HYR := Hid.mk hy'
    have HB2 := Hid.mk hb2
    clear hb2 hq hy'
    go_upto_region 7 with (first | refine wpList_store_row rfl 60 _ _ rfl _ y'.cells.toArray rfl rfl 60 _ (heap_alloc_new _ _) (Zb1 HYL.out) (Zbr HYL.out) (all_oneCell_toArray (RV.one _)) ?_)
    refine gen_w (p := fun v => Code.wp _ _ _ _ v) (q := fun u => RBx w2.heap.size u y' /\ Pn w u x y /\ Below w2.heap.size w2 u) ⟨⟨setRow_heap _ _ _ _ _ _ (heap_alloc_new _ _), HYL.out⟩, HP2.out.go (Below.setRow (below_new w2 _) (Nat.le_refl _) _), Below.setRow (below_new w2 _) (Nat.le_refl _) _⟩ ?_
    rintro v3 ⟨B3, P3, b3⟩
    have HB3 := Hid.mk B3
    have HP3 := Hid.mk P3
    have HBB := Hid.mk b3
    clear b3
    clear B3 P3
    rename_i KK hkk
    refine wp_region_lit <| Zal 38 (.slice a' m m) rfl (by kernel_rfl) (by kernel_rfl) <| Zal 39 (.agg y'.cells.toArray) rfl (by kernel_rfl) (Zec rfl (by kernel_rfl) HYL.out HB3.out.all) <| Zal 40 (.agg (NV.cells ⟨2, a', m, m, none, 0, 0, y', none, 0, 0⟩).toArray) rfl (by kernel_rfl) (Zb9 104 _ rfl [(0, .int .i64 2), (1, .slice a' m m), (3, .agg y'.cells.toArray)] (by kernel_rfl) _ (Zf4 _ _ _ _ HYL.out)) <| Zal 41 (.bool true) rfl (by kernel_rfl) (by kernel_rfl) <| Zdy rfl (by kernel_rfl) (Zbs 104 _ _ rfl (w.heap.size + 1 + 1) (NV.cells ⟨2, a', m, m, none, 0, 0, y', none, 0, 0⟩).toArray (by kernel_rfl) (by kernel_rfl) 104 nz.cells.toArray HP3.out.row (Zbe HYL.out) (Za6 HYL.out) (all_oneCell_toArray (NV.one _))) <| Zal 5 (.bool true) rfl (by kernel_rfl) (by kernel_rfl) <| hkk _ _ <| Zew Tryz.results124 (fun h => h) (w.heap.size + 1 + 1) ⟨2, a', m, m, none, 0, 0, y', none, 0, 0⟩ (.bool true) HYL.out (by kernel_rfl) (by kernel_rfl) (by kernel_rfl) (setRow_heap _ _ _ _ _ _ HP3.out.row) ?_
    have hk1 : Keep (Own v.heap.size w1) (OwnP P (v3.setRow (w.heap.size + 1 + 1) (NV.cells ⟨2, a', m, m, none, 0, 0, y', none, 0, 0⟩).toArray)) w1 (v3.setRow (w.heap.size + 1 + 1) (NV.cells ⟨2, a', m, m, none, 0, 0, y', none, 0, 0⟩).toArray) := fun k hK hk => by
     have e : ((v3.setRow (w.heap.size + 1 + 1) (NV.cells ⟨2, a', m, m, none, 0, 0, y', none, 0, 0⟩).toArray)).heap[k]? = w1.heap[k]? := (setRow_other _ _ _ _ (by have := hK.1; have := HVS.out; omega)).trans ((HBB.out.block k (Nat.lt_of_lt_of_le hk HB2.out.size)).trans (HB2.out.block k hk))
     exact ⟨e, HBASE.out k (by have := hK.1; have := HVS.out; omega), fun o => (World.frozen?_of_block (w := w1) e).trans (hK.2 o)⟩
    have hk2 : Keep (Own w1.heap.size w2) (OwnP P (v3.setRow (w.heap.size + 1 + 1) (NV.cells ⟨2, a', m, m, none, 0, 0, y', none, 0, 0⟩).toArray)) w2 (v3.setRow (w.heap.size + 1 + 1) (NV.cells ⟨2, a', m, m, none, 0, 0, y', none, 0, 0⟩).toArray) := fun k hK hk => by
     have e : ((v3.setRow (w.heap.size + 1 + 1) (NV.cells ⟨2, a', m, m, none, 0, 0, y', none, 0, 0⟩).toArray)).heap[k]? = w2.heap[k]? := (setRow_other _ _ _ _ (by have := hK.1; have := HW1.out; omega)).trans (HBB.out.block k hk)
     exact ⟨e, HBASE.out k (by have := hK.1; have := HW1.out; omega), fun o => (World.frozen?_of_block (w := w2) e).trans (hK.2 o)⟩
    exact ⟨Below.setRow HP3.out.bel (by omega) _, ⟨2, a', m, m, none, 0, 0, y', none, 0, 0⟩, rfl, rfl, HPA.out.go hk1, Zd7 _ _, HYR.out.go hk2, ⟨rfl, Nat.zero_le _, Nat.zero_le _, Nat.zero_le _, fun _ => ⟨rfl, rfl⟩⟩, Zhl _ _ _⟩
end Go.Proofs.YtdkpilgelgjieaaGreat
namespace Go.Proofs.YtdkpilgelgjieaaGreat
open Go.RowKit
theorem Zql {w : World} {g : Nat} {b : List Int} (h : Row g w b) (o : Nat) : w.frozen? ⟨g, o, none⟩ = false := frozen_of_row _ _ _ _ _ h
theorem Zee {P : Nat -> Prop} {w : World} {g n : Nat} {b : List Int} (h : Row g w b) (hl : b.length = n) (hb : isB b) (hn : n <= 140737488351232) (hP : P g) : LiesP P w (.mk false b []) ⟨false, some ⟨g, 0, none⟩, n, n, none, 0, 0⟩ :=
 liesP_eq.2 ⟨⟨rfl, row_ag (n := n) h hl hb (Nat.le_trans hn (by omega)), rfl, Nat.le_refl _, Nat.zero_le _, ⟨hn, Nat.zero_le _⟩, fun g' off e _ => by cases e; exact ⟨hP, Zql h⟩⟩, Zbk⟩
theorem Zgc (P : Nat -> Prop) (w : World) : LiesP P w t0 ⟨false, none, 0, 0, none, 0, 0⟩ :=
 liesP_eq.2 ⟨⟨rfl, ⟨.inl ⟨rfl, rfl⟩, fun _ => ⟨rfl, rfl⟩, rfl, fun x hx => by cases hx⟩, rfl, Nat.le_refl _, Nat.zero_le _, ⟨Nat.zero_le _, Nat.zero_le _⟩, fun g off e => by cases e⟩, Zbk⟩
structure Ri (w v : World) (x : RV) : Prop where
 row : v.heap[w.heap.size + 1]? = some (.cells #[.bool false, .slice none 0 0, .slice none 0 0] 94)
 bx : RBx w.heap.size v x
 bel : Below w.heap.size w v
 sz : w.heap.size + 2 <= v.heap.size
theorem Ri.go {w v v' : World} {x : RV} (h : Ri w v x) (hb : Below v.heap.size v v') : Ri w v' x := ⟨Below.row hb h.row, h.bx.go hb, below_go h.bel hb, Nat.le_trans h.sz hb.size⟩
theorem Zwa (w : World) (x : RV) (hl : x.d.length = 32) : Ri w ((w.alloc (.cells x.cells.toArray 60)).alloc (.cells #[.bool false, .slice none 0 0, .slice none 0 0] 94)) x := by
 have s1 : (w.alloc (.cells x.cells.toArray 60)).heap.size = w.heap.size + 1 := by simp
 refine ⟨?_, (Zic w x hl).go (below_new _ _), below_go (below_new w _) (below_new _ _), by simp⟩
 have := heap_alloc_new (w.alloc (.cells x.cells.toArray 60)) (.cells #[.bool false, .slice none 0 0, .slice none 0 0] 94)
 rwa [s1] at this
theorem Ri.x0 {w v : World} {x : RV} (h : Ri w v x) : v.cell? ⟨w.heap.size + 1, 0, none⟩ = some (.bool false) := by rw [cell_of_row _ _ _ _ _ _ h.row]; rfl
theorem Ri.x1 {w v : World} {x : RV} (h : Ri w v x) : v.cell? ⟨w.heap.size + 1, 1, none⟩ = some (.slice none 0 0) := by rw [cell_of_row _ _ _ _ _ _ h.row]; rfl
theorem Ri.x2 {w v : World} {x : RV} (h : Ri w v x) : v.cell? ⟨w.heap.size + 1, 2, none⟩ = some (.slice none 0 0) := by rw [cell_of_row _ _ _ _ _ _ h.row]; rfl
theorem Ri.xf {w v : World} {x : RV} (h : Ri w v x) : ∀ o, v.frozen? ⟨w.heap.size + 1, o, none⟩ = false := fun o => frozen_of_row _ _ _ _ _ h.row
def IPost (w : World) (t : T) : Ending -> World -> Prop := fun e w' => (∃ y : V, e = .returned (.agg #[.bool y.l, .slice y.ba y.bn y.bc, .slice y.ia y.m y.ic]) /\ LiesP (fun b => w.heap.size <= b) w' t y) /\ Below w.heap.size w w'
theorem Zcs {w v : World} {x : RV} {t : T} {y : V} (h : Ri w v x) (hy : LiesP (fun b => w.heap.size + 2 <= b) v t y) :
  IPost w t (.returned (.agg #[.bool y.l, .slice y.ba y.bn y.bc, .slice y.ia y.m y.ic])) (((v.setCell ⟨w.heap.size + 1, 0, none⟩ (.bool y.l)).setCell ⟨w.heap.size + 1, 1, none⟩ (.slice y.ba y.bn y.bc)).setCell ⟨w.heap.size + 1, 2, none⟩ (.slice y.ia y.m y.ic)) :=
 ⟨⟨y, rfl, Zak (fun b hb hlt => ⟨Zbv (by omega) _ _ _, by omega⟩) _ _ hy⟩, Za0 h.bel (by omega) _ _ _⟩
set_option maxHeartbeats 4000000 in
theorem Zh9 (K : Nat -> Prop) (x : RV) (r : PR) (w : World) (h : RefAt K w x r) :
  Calls Tryz.prog 103 #[.agg x.cells.toArray] w (IPost w (refItemP r)) := by
 have HRI := Hid.mk (Zwa w x h.len)
 have HH := Hid.mk h
 have HLX := Hid.mk h.len
 obtain ⟨res, hres⟩ : ∃ res, refItemP r = res := ⟨_, rfl⟩
 rw [hres]
 unfold refItemP at hres
 rw [<- h.1] at hres
 have HRES := Hid.mk hres
 clear h hres
 go_enter Tryz.func103, Tryz.ntmps103
 go_upto_region 1 with fail
 refine gen_w (p := fun v => Code.wp _ _ _ _ v) (q := fun v => Ri w v x) HRI.out ?_
 clear HRI
 intro v R0
 have c0 := R0.bx.c0
 have c33 := R0.bx.c33
 have HR0 := Hid.mk R0
 clear R0
 by_cases h1 : x.k = 1
 ·have hr := HRES.out
  rw [if_pos h1] at hr
  have HCD := Hid.mk (Zj9 x.a x.n x.c r.i v (HH.out.2.2.2.2.1.at HR0.out.bel) HH.out.2.2.2.2.2.1)
  have HR := Hid.mk hr
  clear hr HRES
  go_wp2_with fail
  refine HCD.out.mono ?_
  intro e w1 hp
  obtain ⟨hb1, hp⟩ := hp
  have HR1 := Hid.mk (HR0.out.go hb1)
  have HS0 := Hid.mk HR0.out.sz
  have hr := HR.out
  cases hq : decP r.i with
  | bad er =>
   rw [hq] at hp hr
   have hr : t0 = res := hr
   subst hr
   obtain ⟨rfl, her⟩ := hp
   clear hb1 hq her
   go_upto_region 4 with fail
   refine gen_w (p := fun v => Code.wp _ _ _ _ v) (q := fun v => Ri w v x /\ B1 w1.heap.size v ⟨false, none, 0, 0, none, 0, 0⟩) ⟨HR1.out.go (below_new w1 _), Zcy w1 ⟨false, none, 0, 0, none, 0, 0⟩⟩ ?_
   rintro v2 ⟨R2, B2⟩
   have x0 := R2.x0
   have x1 := R2.x1
   have x2 := R2.x2
   have xf := R2.xf
   have d0 := B2.c0
   have d1 := B2.c1
   have d2 := B2.c2
   have HR2 := Hid.mk R2
   clear R2 B2 c0 c33
   go_wp2_with fail
   have hr := put3 HR2.out.row (.bool false) (.slice none 0 0) (.slice none 0 0)
   refine bodyPost_ret (results_cell_row Tryz.results103 _ _ (w.heap.size + 1) 94 _ (0, 0) _ rfl hr Tryz.underlying94 rfl (by kernel_rfl)) rfl ?_
   exact Zcs (y := ⟨false, none, 0, 0, none, 0, 0⟩) HR2.out (Zgc _ _)
  | ok t =>
   rw [hq] at hp hr
   have hr : t = res := hr
   subst hr
   obtain ⟨y, rfl, hy⟩ := hp
   have HY := Hid.mk (show LiesP (fun b => w.heap.size + 2 <= b) w1 t y from Zak (fun b hb hlt => ⟨rfl, by have := HS0.out; omega⟩) _ _ hy)
   clear hb1 hq hy
   go_upto_region 4 with fail
   refine gen_w (p := fun v => Code.wp _ _ _ _ v) (q := fun v => Ri w v x /\ B1 w1.heap.size v y /\ LiesP (fun b => w.heap.size + 2 <= b) v t y) ⟨HR1.out.go (below_new w1 _), Zcy w1 _, Zak (fun b hb hlt => ⟨heap_alloc_old _ _ hlt, hb⟩) _ _ HY.out⟩ ?_
   rintro v2 ⟨R2, B2, L2⟩
   have x0 := R2.x0
   have x1 := R2.x1
   have x2 := R2.x2
   have xf := R2.xf
   have d0 := B2.c0
   have d1 := B2.c1
   have d2 := B2.c2
   have HR2 := Hid.mk R2
   have HL2 := Hid.mk L2
   clear R2 B2 L2 c0 c33
   go_wp2_with fail
   have hr := put3 HR2.out.row (.bool y.l) (.slice y.ba y.bn y.bc) (.slice y.ia y.m y.ic)
   refine bodyPost_ret (results_cell_row Tryz.results103 _ _ (w.heap.size + 1) 94 _ (0, 0) _ rfl hr Tryz.underlying94 rfl (by kernel_rfl)) rfl ?_
   exact Zcs HR2.out HL2.out
 ·by_cases h2 : x.k = 2
  ·have hr := HRES.out
   rw [if_neg h1, if_pos h2] at hr
   subst hr
   have hag : Ag v (some ⟨w.heap.size, 1, none⟩) 32 32 r.d := by
    have hd := HR0.out.bx.digest
    rw [HH.out.2.1] at hd
    refine ⟨.inr ⟨w.heap.size, 1, rfl, HH.out.2.2.2.1, by omega, by omega, by unfold maxLen; omega, fun j hj => ?_⟩, (fun e => by cases e), HH.out.2.2.2.1, HH.out.2.2.1⟩
    exact hd j _ (by rw [List.getElem?_map, List.getD, List.getElem?_eq_getElem hj]; rfl)
   have HTX := Hid.mk (Zdb (some ⟨w.heap.size, 1, none⟩) 32 32 r.d v hag (by omega))
   have HS0 := Hid.mk HR0.out.sz
   have e1 : (x.k == 1) = false := by simp [h1]
   clear hag
   go_wp2_with fail
   refine HTX.out.mono ?_
   rintro e w1 ⟨rfl, hrow, hb1⟩
   have R1 := HR0.out.go hb1
   have x0 := R1.x0
   have x1 := R1.x1
   have x2 := R1.x2
   have xf := R1.xf
   have HR1 := Hid.mk R1
   have HY := Hid.mk (Zee (P := fun b => w.heap.size + 2 <= b) hrow HH.out.2.2.2.1 HH.out.2.2.1 (by omega) (by have := HS0.out; omega))
   clear hrow hb1 R1
   go_wp2_with fail
   have hr := put3 HR1.out.row (.bool false) (.slice (some ⟨v.heap.size + 1, 0, none⟩) 32 32) (.slice none 0 0)
   refine bodyPost_ret (results_cell_row Tryz.results103 _ _ (w.heap.size + 1) 94 _ (0, 0) _ rfl hr Tryz.underlying94 rfl (by kernel_rfl)) rfl ?_
   exact Zcs (y := ⟨false, some ⟨v.heap.size + 1, 0, none⟩, 32, 32, none, 0, 0⟩) HR1.out HY.out
  ·have hr := HRES.out
   rw [if_neg h1, if_neg h2] at hr
   subst hr
   have hag : Ag v none 0 0 [] := ⟨.inl ⟨rfl, rfl⟩, fun _ => ⟨rfl, rfl⟩, rfl, fun x hx => by cases hx⟩
   have HTX := Hid.mk (Zdb none 0 0 [] v hag (by omega))
   have HS0 := Hid.mk HR0.out.sz
   have e1 : (x.k == 1) = false := by simp [h1]
   have e2 : (x.k == 2) = false := by simp [h2]
   clear hag
   go_wp2_with fail
   refine HTX.out.mono ?_
   rintro e w1 ⟨rfl, hrow, hb1⟩
   have R1 := HR0.out.go hb1
   have x0 := R1.x0
   have x1 := R1.x1
   have x2 := R1.x2
   have xf := R1.xf
   have HR1 := Hid.mk R1
   have HY := Hid.mk (Zee (P := fun b => w.heap.size + 2 <= b) (n := 0) hrow rfl (fun x hx => by cases hx) (by omega) (by have := HS0.out; omega))
   clear hrow hb1 R1
   go_wp2_with fail
   have hr := put3 HR1.out.row (.bool false) (.slice (some ⟨v.heap.size + 1, 0, none⟩) 0 0) (.slice none 0 0)
   refine bodyPost_ret (results_cell_row Tryz.results103 _ _ (w.heap.size + 1) 94 _ (0, 0) _ rfl hr Tryz.underlying94 rfl (by kernel_rfl)) rfl ?_
   exact Zcs (y := ⟨false, some ⟨v.heap.size + 1, 0, none⟩, 0, 0, none, 0, 0⟩) HR1.out HY.out
end Go.Proofs.YtdkpilgelgjieaaGreat
namespace Go.Proofs.YtdkpilgelgjieaaGreat
open Go.RowKit
open Di (dref)
theorem Zcv {ds : List Int} (h : ds.length = 32) : (B8 z32).size = (B8 ds).size := by rw [B8_size, B8_size, h]; rfl
theorem Zce {ds : List Int} (h : ds.length = 32) : (Tryz.prog.info? 24).map (·.size) = some (B8 ds).size := by rw [Zzu, B8_size, h]
theorem B8_one (bs : List Int) : (B8 bs).all (·.oneCell') = true := all_oneCell_toArray (B8_one2 bs)
theorem Zz2 : encP t0 = ([128], 0) := by decide +kernel
set_option maxHeartbeats 2000000 in
theorem Zja (w : World) : Calls Tryz.prog 24 #[] w fun e w' => e = .returned (.agg (B8 (dref [128]))) /\ Below w.heap.size w w' := by
 have HOF := Hid.mk (fun (v : World) => Zhe (some ⟨v.heap.size, 0, none⟩) 1 1 [128] (v.alloc (.cells #[.int .u8 128] 5)) (Ni.row_ag (show Ni.Row v.heap.size (v.alloc (.cells #[.int .u8 128] 5)) [128] from heap_alloc_new _ _) rfl (fun x hx => by simp at hx; omega) (show (1 : Nat) <= 9223372036854775807 by decide)) (by omega))
 have HDL := Hid.mk (dref_len [128])
 obtain ⟨ds, hds⟩ : ∃ ds, dref [128] = ds := ⟨_, rfl⟩
 rw [hds] at HOF HDL ⊢
 clear hds
 go_enter Tryz.func24, Tryz.ntmps24
 go_upto_region 1 with fail
 refine gen_w (p := fun v => Code.wp _ _ _ _ v) (q := fun v => v.heap[w.heap.size]? = some (.cells (B8 z32) 24) /\ Below w.heap.size w v) ⟨heap_alloc_new _ _, below_new _ _⟩ ?_
 rintro v ⟨hrow, hb⟩
 have HROW := Hid.mk hrow
 have HB := Hid.mk hb
 clear hrow hb
 go_wp2_with fail
 refine (HOF.out v).mono ?_
 rintro e w1 ⟨rfl, hb1⟩
 have HR1 := Hid.mk (Below.row (below_go (below_new v _) hb1) HROW.out)
 have HB1 := Hid.mk (below_go HB.out (below_go (below_new v _) hb1))
 clear hb1
 go_wp2_with (first | refine wpList_store_row rfl 24 _ _ rfl _ (B8 ds) rfl rfl 24 _ HR1.out (Zce HDL.out) (Zcv HDL.out) (B8_one _) ?_)
 refine bodyPost_ret (results_cell_row Tryz.results24 _ _ w.heap.size 24 (B8 ds) (0, 0) _ rfl (setRow_heap _ _ _ _ _ _ HR1.out) Tryz.underlying24 rfl (Zce HDL.out)) rfl ?_
 exact ⟨rfl, Below.setRow HB1.out (Nat.le_refl _) _⟩
set_option maxHeartbeats 2000000 in
theorem Zla (w : World) : Calls Tryz.prog 32 #[] w fun e w' => e = .returned (.agg (B8 (dref [128]))) /\ Below w.heap.size w w' := by
 have HDL := Hid.mk (dref_len [128])
 have HOF := Hid.mk (fun (v : World) (a : Option Addr) (c : Nat) (h : Ag v a 1 c [128]) => Znt a 1 c [128] v h (by omega))
 obtain ⟨ds, hds⟩ : ∃ ds, dref [128] = ds := ⟨_, rfl⟩
 rw [hds] at HOF HDL ⊢
 clear hds
 have HTX := Hid.mk (fun v => Zdb none 0 0 [] v ⟨.inl ⟨rfl, rfl⟩, fun _ => ⟨rfl, rfl⟩, rfl, fun x hx => by cases hx⟩ (by omega))
 go_enter Tryz.func32, Tryz.ntmps32
 go_upto_region 1 with fail
 refine gen_w (p := fun v => Code.wp _ _ _ _ v) (q := fun v => v.heap[w.heap.size]? = some (.cells (B8 z32) 24) /\ Below w.heap.size w v) ⟨heap_alloc_new _ _, below_new _ _⟩ ?_
 rintro v ⟨hrow, hb⟩
 have HROW := Hid.mk hrow
 have HB := Hid.mk hb
 clear hrow hb
 go_wp2_with fail
 refine (HTX.out v).mono ?_
 rintro e w1 ⟨rfl, hr1, hb1⟩
 have hlies := Zbg _ _ (Zee (P := fun _ => True) (n := 0) hr1 rfl (fun x hx => by cases hx) (by omega) trivial)
 have hen := Zgj (.mk false [] []) ⟨false, some ⟨v.heap.size + 1, 0, none⟩, 0, 0, none, 0, 0⟩ w1 hlies
 rw [show encP (.mk false [] []) = ([128], 0) from Zz2] at hen
 have HEN := Hid.mk hen
 have HB1 := Hid.mk (below_go HB.out hb1)
 have HR1 := Hid.mk (Below.row hb1 HROW.out)
 clear hr1 hb1 hlies hen HROW HB
 go_wp2_with fail
 refine HEN.out.mono ?_
 rintro e w2 ⟨⟨a, m, c, rfl, hag, -⟩, hb2⟩
 have hm : m = 1 := hag.l.symm
 subst hm
 have HO2 := Hid.mk (HOF.out w2 a c hag)
 have HB2 := Hid.mk (below_go HB1.out hb2)
 have HR2 := Hid.mk (Below.row hb2 HR1.out)
 clear hag hb2
 go_wp2_with fail
 refine HO2.out.mono ?_
 rintro e w3 ⟨rfl, hb3⟩
 have HR3 := Hid.mk (Below.row hb3 HR2.out)
 have HB3 := Hid.mk (below_go HB2.out hb3)
 clear hb3
 go_wp2_with (first | refine wpList_store_row rfl 24 _ _ rfl _ (B8 ds) rfl rfl 24 _ HR3.out (Zce HDL.out) (Zcv HDL.out) (B8_one _) ?_)
 refine bodyPost_ret (results_cell_row Tryz.results32 _ _ w.heap.size 24 (B8 ds) (0, 0) _ rfl (setRow_heap _ _ _ _ _ _ HR3.out) Tryz.underlying24 rfl (Zce HDL.out)) rfl ?_
 exact ⟨rfl, Below.setRow HB3.out (Nat.le_refl _) _⟩
end Go.Proofs.YtdkpilgelgjieaaGreat
namespace Go.Proofs.YtdkpilgelgjieaaGreat
open Go.RowKit
open Tr
open Di (dref)
theorem Zfl {fn : Func} {p : Tmp} {f : Nat -> Value} (h : fn.results = #[.cell p 24]) (w : World) (g : Nat) (ds : List Int) (hl : ds.length = 32) (hp : f p = .pointer (some ⟨g, 0, none⟩)) (hg : Rw g w (B8 ds) 24) : (resF f fn.results).run Tryz.prog w = .ok (.agg (B8 ds)) w := by
 have := run_loadVar_row (P := Tryz.prog) w g 24 24 _ _ _ hg Tryz.underlying24 rfl (Zce hl)
 unfold resF
 rw [h]
 simp [hp, this, asAddr]
theorem Zr8 {ρ : Operand -> Value} {w : World} {x y : Operand} {o : Oper} {ds : List Int} (ho : o.op = .binOp .eql 24 x y 24) (hx : ρ x = .agg (B8 ds)) (hy : ρ y = .agg (B8 ds)) (hl : ds.length = 32) : (execOp ρ o).run Tryz.prog w = .ok (.value (.bool true)) w := by
 have e := eqD ds ds hl hl w
 simp at e
 unfold execOp
 rw [ho]
 simp only [hx, hy]
 go_simp
theorem Ztk {w1 w2 : World} {g : Nat} {x : Int} (hx : 0 <= x /\ x < 256) (hn : New w1 w2 g #[.int .u8 x] 5) {K : Nat -> Prop} (hK : ∀ b, w1.heap.size <= b -> K b) : ∃ w3, (∀ (ρ : Operand -> Value) (o : Oper) (y : Operand), o.op = .convert 32 32 y -> ρ y = .slice (some ⟨g, 0, none⟩) 1 1 -> (execOp ρ o).run Tryz.prog w2 = .ok (.value (.slice (some ⟨g, 0, none⟩) 1 1)) w3) /\ Below w1.heap.size w1 w3 /\ Sk K w3 (some ⟨g, 0, none⟩) 1 1 [x] := by
 obtain ⟨rfl, rfl⟩ := hn
 refine ⟨w1.alloc (.cells #[.int .u8 x] 5 (1, 2)), ?_, (Below.refl _ _).alloc (Nat.le_refl _) _, ?_⟩
 ·intro ρ o y ho hy
  have := Lib.run_convert_bytes_const (P := Tryz.prog) w1 32 5 #[.int .u8 x] 1 1 Tryz.underlying32 Tryz.underlying5
  unfold execOp
  simp only [ho, hy, Sem.run_bind, this, Result.andThen_ok, Sem.run_pure]
  rfl
 ·refine ⟨⟨.inr ⟨w1.heap.size, 0, rfl, rfl, by omega, by omega, by unfold maxLen; omega, fun j hj => ?_⟩, (fun e => by cases e), rfl, fun y hy => by rw [List.mem_singleton.1 hy]; exact hx⟩, fun y hy _ => ?_⟩
  ·have : j = 0 := by simpa using hj
   subst this
   rw [cell_of_row _ _ _ _ _ _ (heap_alloc_new w1 _)]; rfl
  ·cases hy
   exact hK _ (Nat.le_refl _)
def putT (t : Tr) (k x : List Int) : Tr := if k.length <= 32 /\ 0 < x.length /\ x.length <= 256 then put t (Ni.nib k) x else t
def putE (k x : List Int) : Int := if k.length <= 32 then (if 0 < x.length /\ x.length <= 256 then 0 else 71) else 70
def delT (t : Tr) (k : List Int) : Tr := if k.length <= 32 /\ Tr.get t (Ni.nib k) ≠ [] then del t (Ni.nib k) else t
end Go.Proofs.YtdkpilgelgjieaaGreat
namespace Go.Proofs.YtdkpilgelgjieaaGreat.Ni
open Go.RowKit
set_option maxHeartbeats 400000 in
theorem right_any (a : Option Addr) (n c : Nat) (b : List Int) (w : World) (h : Ag w a n c b) (hn : n <= 140737488355328) :
  Calls Tryz.prog 67 #[.slice a n c] w fun e w' => e = .returned (.bool (rightP b)) /\ w' = w := by
 have HL := Hid.mk h.l
 have HC : Hid (0 < n -> ∃ g off, a = some ⟨g, off, none⟩ /\ n <= c /\ c <= maxLen /\ ∀ j, j < n -> w.cell? ⟨g, off + j, none⟩ = some (.int .u8 (b.getD j 0))) := Hid.mk (ag_head h)
 have HB := Hid.mk h.b
 clear h
 obtain ⟨res, hres⟩ : ∃ r, rightP b = r := ⟨_, rfl⟩
 rw [hres]
 have HRES := Hid.mk hres
 clear hres
 go_enter Tryz.func67, Tryz.ntmps67
 go_wp2_with fail
 go_loopw [7] (fun i v => ∃ j : Nat, j <= n /\ i = .int .i64 j /\ (∀ i, i < j -> b.getD i 0 <= 15) /\ v = w) (fun i _ => n - (intOf i).toNat)
 case atStart => exact ⟨0, by omega, rfl, fun i hi => by omega, rfl⟩
 case round =>
  obtain ⟨j, hj, rfl, hle, rfl⟩ := hrel
  have HLE := Hid.mk hle
  clear hle
  by_cases hlt : j < n
  ·obtain ⟨g, off, rfl, hnc, hcm, hcs⟩ := HC.out (by omega)
   unfold maxLen at hcm
   have hcell := hcs j hlt
   have hx := HB.out _ (getD_mem (show j < b.length by have := HL.out; omega))
   have HX : Hid (b.getD j 0 > 15 -> rightP b = false) := Hid.mk (fun h => Zoe (by have := HL.out; omega) h)
   have HY : Hid (b.getD j 0 <= 15 -> ∀ i, i < j + 1 -> b.getD i 0 <= 15) := Hid.mk (fun h i hi => by
    by_cases e : i = j
    ·rw [e]; exact h
    ·exact HLE.out i (by omega))
   generalize b.getD j 0 = x at hcell hx HX HY
   obtain ⟨hx0, hx1⟩ := hx
   have hji : (j : Int) < n := by omega
   clear hcs
   by_cases h15 : x > 15
   ·have e : res = false := HRES.out.symm.trans (HX.out h15)
    subst e
    go_wp2_with fail
    go_ret
    exact ⟨rfl, rfl⟩
   ·have h15' : ¬ x > 15 := h15
    go_wp2_with fail
    exact ⟨⟨j + 1, by omega, by simp, HY.out (by omega), trivial⟩, by simp [intOf]; omega⟩
  ·have hji : ¬ (j : Int) < n := by omega
   have e : res = true := HRES.out.symm.trans (Zlt fun i hi => HLE.out i (by have := HL.out; omega))
   subst e
   go_wp2_with fail
   go_ret
   exact ⟨rfl, rfl⟩
end Go.Proofs.YtdkpilgelgjieaaGreat.Ni

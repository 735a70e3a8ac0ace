/- What Refer, EmptyRoot and EmptyCode answer, the program's and the document's. -/
import Derived.Test.YtefhepcplempkaaGreatG15
import Derived.Test.YtefhepcplempkaaGreatG02
import Derived.Test.YtefhepcplempkaaGreatG17
import Derived.Test.YtefhepcplempkaaGreatG14
import Derived.Test.YtefhepcplempkaaGreatG03
set_option linter.unusedVariables false
set_option maxRecDepth 100000
namespace Go.Proofs.YtefhepcplempkaaGreat
open Go.RowKit
open Di (dref)
theorem Zjq (a : Option Addr) (n c : Nat) (b : List Int) (w : World) (h : Ag w a n c b) (hn : n <= 140737488351232) : Calls Tryz.prog 39 #[.slice a n c] w fun e w' => e = .returned (.agg (B8 (dref b))) /\ Below w.heap.size w w' :=
 Di.of_any a n c b w h.i h.l.symm h.b (by omega)
theorem Zi6 (a : Option Addr) (n c : Nat) (b : List Int) (w : World) (h : Ag w a n c b) (hn : n <= 140737488351232) : Calls Tryz.prog 41 #[.slice a n c] w fun e w' => e = .returned (.agg (B8 (dref b))) /\ Below w.heap.size w w' :=
 Di.rof_any a n c b w (h.i.inB h.nil) h.b (by rw [h.l]; exact hn)
theorem dref_len (b : List Int) : (dref b).length = 32 := Di.dref_len b
theorem Ze6 (b : List Int) : isB (dref b) := fun x hx => by
 unfold dref Di.dig at hx
 obtain ⟨i, _, rfl⟩ := List.mem_map.1 hx
 unfold Di.bt
 omega
end Go.Proofs.YtefhepcplempkaaGreat
namespace Go.Proofs.YtefhepcplempkaaGreat
open Go.RowKit
theorem Zcj {fn : Func} {p u : Tmp} (h : fn.results = #[.cell p 65, .tmp u]) (tmps : Array Value) (w : World) (g : Nat) (y : RV) (hl : y.d.length = 32) (hp : tmps.getD p undef = .pointer (some ⟨g, 0, none⟩)) (hg : w.heap[g]? = some (.cells y.cells.toArray 65)) :
  (results fn tmps).run Tryz.prog w = .ok (.tuple #[.agg y.cells.toArray, tmps.getD u undef]) w := by
 have hp' : tmps[p]?.getD undef = .pointer (some ⟨g, 0, none⟩) := by simpa using hp
 have hr := run_loadVar_row (P := Tryz.prog) w g 65 65 y.cells.toArray (0, 0) _ hg Tryz.underlying65 rfl (by rw [Zbn, List.size_toArray, RV.len hl])
 simp [results, h, hp', asAddr, hr]
def RPost (w : World) (o : Option PR) : Ending -> World -> Prop := fun e w' => Below w.heap.size w w' ∧
 match o with
 | none => ∃ y : RV, y.d.length = 32 /\ e = .returned (.tuple #[.agg y.cells.toArray, .bool false])
 | some r => ∃ y : RV, e = .returned (.tuple #[.agg y.cells.toArray, .bool true]) /\ RefAt (Own w.heap.size w') w' y r
theorem Zhv (K : Nat -> Prop) (w : World) : AgK K w none 0 0 [] := ⟨⟨.inl ⟨rfl, rfl⟩, fun _ => ⟨rfl, rfl⟩, rfl, fun x hx => by cases hx⟩, by omega, fun g off e => by cases e⟩
theorem Zl7 : isB z32 := fun x hx => by rw [z32, List.mem_replicate] at hx; omega
theorem Zfg (K : Nat -> Prop) (w : World) : RefAt K w rz r0 := ⟨rfl, rfl, Zl7, rfl, Zhv K w⟩
theorem Zb3 {y : RV} (h : y.d.length = 32) : (rz.cells.toArray : Array Value).size = y.cells.toArray.size := by rw [List.size_toArray, List.size_toArray, RV.len h]; rfl
theorem Zcu {y : RV} (h : y.d.length = 32) : (Tryz.prog.info? 65).map (·.size) = some y.cells.toArray.size := by rw [Zbn, List.size_toArray, RV.len h]
structure Rr (w v : World) (x : V) : Prop where
 row : v.heap[w.heap.size + 1]? = some (.cells rz.cells.toArray 65)
 bx : B1 w.heap.size v x
 bel : Below w.heap.size w v
 sz : w.heap.size + 2 <= v.heap.size
theorem Rr.go {w v v' : World} {x : V} (h : Rr w v x) (hb : Below v.heap.size v v') : Rr w v' x := ⟨Below.row hb h.row, h.bx.go hb, below_go h.bel hb, Nat.le_trans h.sz hb.size⟩
theorem Zyw (w : World) (x : V) : Rr w ((w.alloc (.cells #[.bool x.l, .slice x.ba x.bn x.bc, .slice x.ia x.m x.ic] 109)).alloc (.cells rz.cells.toArray 65)) x := by
 have s1 : (w.alloc (.cells #[.bool x.l, .slice x.ba x.bn x.bc, .slice x.ia x.m x.ic] 109)).heap.size = w.heap.size + 1 := by simp
 refine ⟨?_, (Zf5 w x).alloc _, below_go (below_new w _) (below_new _ _), by simp⟩
 have := heap_alloc_new (w.alloc (.cells #[.bool x.l, .slice x.ba x.bn x.bc, .slice x.ia x.m x.ic] 109)) (.cells rz.cells.toArray 65)
 rwa [s1] at this
theorem Keep.setRow {base base' g : Nat} {v : World} {C : Array Value} (hg : g < base) (hb : base' <= base) : Keep (Own base v) (Own base' (v.setRow g C)) v (v.setRow g C) := fun k hK hk => by
 have e : (v.setRow g C).heap[k]? = v.heap[k]? := setRow_other _ _ _ _ (by have := hK.1; omega)
 exact ⟨e, Nat.le_trans hb hK.1, fun o => (World.frozen?_of_block (w := v) e).trans (hK.2 o)⟩
theorem Zuo {w : World} {N sc : Nat} {ad : Addr} {bs : List Int} (hN : w.heap[N]? = some (.cells (RV.cells ⟨2, z32, none, 0, 0⟩).toArray 65)) (hl : bs.length = 32) (hsrc : ∀ j v, (bs.map (Value.int .u8))[j]? = some v -> w.cell? (ad.add j) = some v) (ty : TypeId) :
  (Builtin.copy_ #[23, 23] ty #[.slice (some ⟨N, 1, none⟩) 32 32, .slice (some ad) 32 sc]).run Tryz.prog w = .ok (.int .i64 32) (w.setRow N (RV.cells ⟨2, bs, none, 0, 0⟩).toArray) := by
 have h := run_copy_row Tryz.prog w 23 23 ty 5 N 1 32 32 ad 32 sc (RV.cells ⟨2, z32, none, 0, 0⟩).toArray 65 (bs.map (Value.int .u8)) Tryz.underlying23 (by kernel_rfl) hN (by rw [List.length_map, hl]; rfl) hsrc (by rw [List.length_map, hl]; decide) (B8_one2 _)
 rw [h, List.length_map, hl]
 rfl
set_option maxHeartbeats 4000000 in
theorem Zki (t : T) (x : V) (w : World) (h : Lies w t x) :
  Calls Tryz.prog 155 #[.agg #[.bool x.l, .slice x.ba x.bn x.bc, .slice x.ia x.m x.ic]] w (RPost w (refOfP t)) := by
 obtain ⟨l, bs, its⟩ := t
 obtain ⟨hl, hag, -⟩ := lies_eq.1 h
 have hbn : x.bn <= 140737488351232 := (lies_eq.1 h).2.2.2.2.2.1.1
 subst hl
 have HX := Hid.mk h
 have HAG := Hid.mk hag
 obtain ⟨res, hres⟩ : ∃ res, refOfP (.mk x.l bs its) = res := ⟨_, rfl⟩
 rw [hres]
 have hres : (if x.l = true then (if (mP (.mk x.l bs its)).2 = 0 then some (⟨1, z32, enc (.mk x.l bs its)⟩ : PR) else none) else if bs.length = 0 then some r0 else if bs.length = 32 then some ⟨2, bs, []⟩ else none) = res := hres
 rw [hag.l] at hres
 have HRES := Hid.mk hres
 have HRR := Hid.mk (Zyw w x)
 clear h hag hres
 go_enter Tryz.func155, Tryz.ntmps155
 go_upto_region 1 with fail
 refine gen_w (p := fun v => Code.wp _ _ _ _ v) (q := fun v => Rr w v x) HRR.out ?_
 clear HRR
 intro v RR
 have c0 := RR.bx.c0
 have c1 := RR.bx.c1
 have c2 := RR.bx.c2
 have HRR := Hid.mk RR
 clear RR
 by_cases hxl : x.l = true
 ·have HE := Hid.mk (Zfp (.mk x.l bs its) x v (Zcl HRR.out.bel _ x HX.out))
  have HXL := Hid.mk hxl
  obtain ⟨xl, exl⟩ : ∃ xl, x.l = xl := ⟨_, rfl⟩
  have hres := HRES.out
  rw [if_pos hxl] at hres
  rw [hxl] at c0
  by_cases hm : (mP (.mk x.l bs its)).2 = 0
  ·rw [if_pos hm] at hres
   subst hres
   have hp := Zns hm
   have hle := Zzu hm
   rw [hp] at HE
   have HHLE := Hid.mk hle
   rw [show (((enc (T.mk x.l bs its), 0) : List Int × Nat).2 : Int) = 0 from rfl] at HE
   rw [show ((enc (T.mk x.l bs its), 0) : List Int × Nat).1 = enc (T.mk x.l bs its) from rfl] at HE
   generalize hen : enc (T.mk x.l bs its) = en at HE HHLE ⊢
   have hEx := HE.out
   rw [hxl] at hEx
   have HE2 := Hid.mk hEx
   have HEN := Hid.mk hen
   clear hp hle hm hen HE HRES hEx exl
   go_wp2_with fail
   refine HE2.out.mono ?_
   rintro e w1 ⟨⟨a, n, c, rfl, hag, hfr⟩, hb⟩
   have R1 := HRR.out.go hb
   have HAGK := Hid.mk (show AgK (Own (w.heap.size + 2) w1) w1 a n c en from ⟨hag, by have := hag.l; have := HHLE.out; omega, fun g off e h0 => by
    have := hfr g off e h0
    exact ⟨by have := HRR.out.sz; omega, this.2⟩⟩)
   have HR1 := Hid.mk R1
   have hl32 : z32.length = 32 := rfl
   clear hag hfr hb R1
   go_wp2_with (first | refine wpList_store_row rfl 65 _ _ rfl _ (RV.cells ⟨1, z32, a, n, c⟩).toArray rfl rfl 65 _ HR1.out.row (Zcu rfl) (Zb3 rfl) (all_oneCell_toArray (RV.one _)) ?_)
   refine bodyPost_ret (Zcj Tryz.results155 _ _ (w.heap.size + 1) ⟨1, z32, a, n, c⟩ rfl rfl (setRow_heap _ _ _ _ _ _ HR1.out.row)) rfl ?_
   exact ⟨Below.setRow HR1.out.bel (by omega) _, ⟨1, z32, a, n, c⟩, rfl, rfl, rfl, Zl7, rfl, by rw [HEN.out]; exact HAGK.out.go (Keep.setRow (base := w.heap.size + 2) (base' := w.heap.size) (g := w.heap.size + 1) (by omega) (by omega))⟩
  ·rw [if_neg hm] at hres
   subst hres
   have hp := Zxw hm
   rw [hp] at HE
   obtain ⟨er, her⟩ : ∃ er, (mP (.mk x.l bs its)).2 = er := ⟨_, rfl⟩
   rw [her] at HE hm
   have hee : ((er : Int) == 0) = false := by rw [beq_eq_false_iff_ne]; omega
   have hEx := HE.out
   rw [hxl] at hEx
   have HE2 := Hid.mk hEx
   clear hp hm her HE HRES hEx exl
   go_wp2_with fail
   refine HE2.out.mono ?_
   rintro e w1 ⟨⟨a, n, c, rfl, hag, hfr⟩, hb⟩
   have HR1 := Hid.mk (HRR.out.go hb)
   clear hag hfr hb
   go_wp2_with (first | refine wpList_store_row rfl 65 _ _ rfl _ (RV.cells ⟨1, z32, a, n, c⟩).toArray rfl rfl 65 _ HR1.out.row (Zcu rfl) (Zb3 rfl) (all_oneCell_toArray (RV.one _)) ?_)
   refine bodyPost_ret (Zcj Tryz.results155 _ _ (w.heap.size + 1) ⟨1, z32, a, n, c⟩ rfl rfl (setRow_heap _ _ _ _ _ _ HR1.out.row)) rfl ?_
   exact ⟨Below.setRow HR1.out.bel (by omega) _, ⟨1, z32, a, n, c⟩, rfl, rfl⟩
 ·have hres := HRES.out
  rw [if_neg hxl] at hres
  have hxf : x.l = false := by simpa using hxl
  rw [hxf] at c0
  clear hxf hxl HRES HX
  by_cases h0 : x.bn = 0
  ·rw [if_pos h0] at hres
   subst hres
   go_wp2_with (first | refine wpList_store_row rfl 65 _ _ rfl _ rz.cells.toArray rfl rfl 65 _ HRR.out.row (Zcu rfl) (Zb3 rfl) (all_oneCell_toArray (RV.one _)) ?_)
   refine bodyPost_ret (Zcj Tryz.results155 _ _ (w.heap.size + 1) rz rfl rfl (setRow_heap _ _ _ _ _ _ HRR.out.row)) rfl ?_
   exact ⟨Below.setRow HRR.out.bel (by omega) _, rz, rfl, Zfg _ _⟩
  ·rw [if_neg h0] at hres
   by_cases h32 : x.bn = 32
   ·rw [if_pos h32] at hres
    subst hres
    have hz := HAG.out
    rw [h32] at hz c1
    obtain ⟨g, off, hba, _, _, hcs⟩ := ag_head hz (by omega)
    rw [hba] at c1
    have HBL := Hid.mk hz.l
    have HBB := Hid.mk hz.b
    have HCS := Hid.mk (show ∀ u, Below w.heap.size w u -> ∀ j z, (bs.map (Value.int .u8))[j]? = some z -> u.cell? ((⟨g, off, none⟩ : Addr).add j) = some z from fun u hu j z hz' => by
     have hj : j < 32 := by have := (List.getElem?_eq_some_iff.1 hz').1; rw [List.length_map, HBL.out] at this; exact this
     rw [Zay, Zaz hu (hcs j hj), <- hz', List.getElem?_map, List.getD, List.getElem?_eq_getElem (by rw [HBL.out]; exact hj)]
     rfl)
    have HRB := Hid.mk hba
    have HR32 := Hid.mk h32
    clear hz hcs h0 h32 hba
    go_upto_region 9 with (first | refine wpList_store_row rfl 65 _ _ rfl _ (RV.cells ⟨2, z32, none, 0, 0⟩).toArray rfl rfl 65 _ (heap_alloc_new _ _) (Zcu rfl) (Zb3 rfl) (all_oneCell_toArray (RV.one _)) ?_)
    refine gen_w (p := fun v => Code.wp _ _ _ _ v) (q := fun u => RBx v.heap.size u ⟨2, z32, none, 0, 0⟩ /\ Rr w u x) ⟨⟨setRow_heap _ _ _ _ _ _ (heap_alloc_new _ _), rfl⟩, ?_⟩ ?_
    ·refine HRR.out.go (Below.setRow (below_new v _) (Nat.le_refl _) _)
    rintro u ⟨B2, R2⟩
    have d1 := R2.bx.c1
    rw [show x.ba = some ⟨g, off, none⟩ from HRB.out] at d1
    rw [HR32.out] at d1
    have HCP := Hid.mk (Zuo (w := u.drew) (N := v.heap.size) (sc := x.bc) B2.row HBL.out (HCS.out _ (R2.bel.drew)))
    have HB2 := Hid.mk B2
    have HR2 := Hid.mk R2
    have HVS := Hid.mk HRR.out.sz
    clear B2 R2 c0 c1 c2
    go_frame
    go_cut [] (fun u2 => RBx v.heap.size u2 ⟨2, bs, none, 0, 0⟩ /\ u2.heap[w.heap.size + 1]? = some (.cells rz.cells.toArray 65) /\ Below w.heap.size w u2)
    case first =>
     go_region_law (refine step_copy rfl _ _ 23 23 rfl _ _ rfl rfl (HCP.out _) ?_)
     all_goals
      go_wp2_with fail
      go_meet
      exact ⟨⟨setRow_heap _ _ _ _ _ _ HB2.out.row, HBL.out⟩, (setRow_other _ _ _ _ (by have := HVS.out; omega)).trans HR2.out.row, Below.setRow HR2.out.bel.drew (by have := HVS.out; omega) _⟩
    case rest =>
     obtain ⟨B3, r3, b3⟩ := hcut
     have HB3 := Hid.mk B3
     have HR3 := Hid.mk r3
     have HL3 := Hid.mk b3
     clear B3 r3 b3
     go_wp2_with (first | refine Zbd rfl _ rfl v.heap.size 0 rfl ⟨2, bs, none, 0, 0⟩ HBL.out HB3.out.all ?_ | refine wpList_store_row rfl 65 _ _ rfl _ (RV.cells ⟨2, bs, none, 0, 0⟩).toArray rfl rfl 65 _ HR3.out (Zcu HBL.out) (Zb3 HBL.out) (all_oneCell_toArray (RV.one _)) ?_)
     refine bodyPost_ret (Zcj Tryz.results155 _ _ (w.heap.size + 1) ⟨2, bs, none, 0, 0⟩ HBL.out rfl (setRow_heap _ _ _ _ _ _ HR3.out)) rfl ?_
     exact ⟨Below.setRow HL3.out (by omega) _, ⟨2, bs, none, 0, 0⟩, rfl, rfl, rfl, HBB.out, HBL.out, Zhv _ _⟩
   ·rw [if_neg h32] at hres
    subst hres
    go_wp2_with (first | refine wpList_store_row rfl 65 _ _ rfl _ rz.cells.toArray rfl rfl 65 _ HRR.out.row (Zcu rfl) (Zb3 rfl) (all_oneCell_toArray (RV.one _)) ?_)
    refine bodyPost_ret (Zcj Tryz.results155 _ _ (w.heap.size + 1) rz rfl rfl (setRow_heap _ _ _ _ _ _ HRR.out.row)) rfl ?_
    exact ⟨Below.setRow HRR.out.bel (by omega) _, rz, rfl, rfl⟩
end Go.Proofs.YtefhepcplempkaaGreat
namespace Go.Proofs.YtefhepcplempkaaGreat.Ni
open Go.RowKit
set_option maxHeartbeats 2000000 in
theorem unpack_any (a : Option Addr) (n c : Nat) (b : List Int) (w : World) (h : Ag w a n c b) (hn : 2 * n <= 140737488355328) :
  Calls Tryz.prog 154 #[.slice a n c] w fun e w' => (∃ a' m, e = .returned (.tuple #[.slice a' m m, .bool (unpP b).2.1, .int .i64 ((unpP b).2.2 : Nat)]) /\ Cut w' w.heap.size a' m (unpP b).1) /\ Below w.heap.size w w' := by
 have hl := h.l
 by_cases h0 : n = 0
 ·subst h0
  have e : b = [] := List.eq_nil_of_length_eq_zero hl
  subst e
  rw [Zv8]
  simp only
  clear h hl
  go_enter Tryz.func154, Tryz.ntmps154
  go_wp2_with fail
  go_ret3
  exact ⟨⟨none, 0, rfl, ag_nil _, fun h => by omega⟩, Below.refl _ _⟩
 have hni : ((n : Int) == 0) = false := by rw [beq_eq_false_iff_ne]; omega
 have hnp : (0 : Int) < n := by omega
 obtain ⟨g, off, rfl, hnc, hcm, hcs⟩ := ag_head h (by omega)
 unfold maxLen at hcm
 have hcell := hcs 0 (by omega)
 rw [Nat.add_zero] at hcell
 have hx := h.b _ (getD_mem (l := b) (i := 0) (by omega))
 have hbad := Zv9 (b := b) (by omega)
 have hgood := Zs8 (b := b) (by omega)
 have hof := fun v (hb : Below w.heap.size w v) => of_any _ n c b v (h.at hb) hn
 have hnl : (nib b).length = 2 * n := by rw [nib_len, hl]
 generalize b.getD 0 0 = x at *
 obtain ⟨hx0, hx1⟩ := hx
 have hand := Z0a hx0 hx1
 have hq0 : 0 <= x / 16 := by omega
 have hq1 : x / 16 < 256 := by omega
 have HOF := Hid.mk hof
 have HNL := Hid.mk hnl
 have hn2 : 2 <= 2 * n := by omega
 clear h hl hcs hof hnl
 by_cases h3 : x / 16 > 3
 ·rw [hbad (.inl h3)]
  simp only
  clear hbad hgood
  go_enter Tryz.func154, Tryz.ntmps154
  go_wp2_with fail
  go_region
  all_goals
   go_wp2_with fail
   go_ret3
   exact ⟨⟨none, 0, rfl, ag_nil _, fun h => by omega⟩, (Below.refl _ _).drew⟩
 have hf : x / 16 = 0 \/ x / 16 = 1 \/ x / 16 = 2 \/ x / 16 = 3 := by omega
 clear h3 hq0 hq1
 rcases hf with hf | hf | hf | hf
 ·
  have c1 : bits BinOp.and IntKind.u8 0 1 = 0 := by decide +kernel
  have c2 : bits BinOp.and IntKind.u8 0 2 = 0 := by decide +kernel
  by_cases hs : x % 16 = 0
  ·
   rw [hgood (by unfold badU; omega), if_pos (by omega)]
   simp only
   rw [decide_eq_false (by omega)]
   clear hbad hgood
   go_enter Tryz.func154, Tryz.ntmps154
   go_wp2_with fail
   go_region
   all_goals
    go_wp2_with fail
    refine (HOF.out _ (Below.refl _ _).drew).mono ?_
    rintro e w1 ⟨⟨a1, rfl, hcut⟩, hb⟩
    have hcal := Zc7 a1 (2 * n) (2 * n) 2 w.heap.size (nib b) w1 (by omega) (Nat.le_refl _) (by unfold maxLen; omega) (by omega) hcut.ag hcut.own
    rw [show ((2 : Nat) : Int) = 2 from rfl] at hcal
    have HCAL := Hid.mk hcal
    have HB := Hid.mk (((Below.refl w.heap.size w).drew).trans hb)
    clear hcal hcut hb
    go_wp2_with fail
    refine HCAL.out.mono ?_
    rintro e w2 ⟨⟨a2, rfl, hcut⟩, rfl⟩
    have HCUT := Hid.mk hcut
    clear hcut
    go_wp2_with fail
    go_ret3
    exact ⟨⟨a2, _, rfl, HCUT.out⟩, HB.out⟩
  ·
   rw [hbad (.inr ⟨by omega, hs⟩)]
   simp only
   clear hbad hgood
   have hsb : (x % 16 != 0) = true := by rw [bne_iff_ne]; exact hs
   clear hs
   go_enter Tryz.func154, Tryz.ntmps154
   go_wp2_with fail
   go_region
   all_goals
    go_wp2_with fail
    go_ret3
    exact ⟨⟨none, 0, rfl, ag_nil _, fun h => by omega⟩, (Below.refl _ _).drew⟩
 ·
  have c1 : bits BinOp.and IntKind.u8 1 1 = 1 := by decide +kernel
  have c2 : bits BinOp.and IntKind.u8 1 2 = 0 := by decide +kernel
  rw [hgood (by unfold badU; omega), if_neg (by omega)]
  simp only
  rw [decide_eq_false (by omega)]
  clear hbad hgood
  go_enter Tryz.func154, Tryz.ntmps154
  go_wp2_with fail
  go_region
  all_goals
   go_wp2_with fail
   refine (HOF.out _ (Below.refl _ _).drew).mono ?_
   rintro e w1 ⟨⟨a1, rfl, hcut⟩, hb⟩
   have hcal := Zc7 a1 (2 * n) (2 * n) 1 w.heap.size (nib b) w1 (by omega) (Nat.le_refl _) (by unfold maxLen; omega) (by omega) hcut.ag hcut.own
   rw [show ((1 : Nat) : Int) = 1 from rfl] at hcal
   have HCAL := Hid.mk hcal
   have HB := Hid.mk (((Below.refl w.heap.size w).drew).trans hb)
   clear hcal hcut hb
   go_wp2_with fail
   refine HCAL.out.mono ?_
   rintro e w2 ⟨⟨a2, rfl, hcut⟩, rfl⟩
   have HCUT := Hid.mk hcut
   clear hcut
   go_wp2_with fail
   go_ret3
   exact ⟨⟨a2, _, rfl, HCUT.out⟩, HB.out⟩
 ·
  have c1 : bits BinOp.and IntKind.u8 2 1 = 0 := by decide +kernel
  have c2 : bits BinOp.and IntKind.u8 2 2 = 2 := by decide +kernel
  by_cases hs : x % 16 = 0
  ·
   rw [hgood (by unfold badU; omega), if_pos (by omega)]
   simp only
   rw [decide_eq_true (by omega)]
   clear hbad hgood
   go_enter Tryz.func154, Tryz.ntmps154
   go_wp2_with fail
   go_region
   all_goals
    go_wp2_with fail
    refine (HOF.out _ (Below.refl _ _).drew).mono ?_
    rintro e w1 ⟨⟨a1, rfl, hcut⟩, hb⟩
    have hcal := Zc7 a1 (2 * n) (2 * n) 2 w.heap.size (nib b) w1 (by omega) (Nat.le_refl _) (by unfold maxLen; omega) (by omega) hcut.ag hcut.own
    rw [show ((2 : Nat) : Int) = 2 from rfl] at hcal
    have HCAL := Hid.mk hcal
    have HB := Hid.mk (((Below.refl w.heap.size w).drew).trans hb)
    clear hcal hcut hb
    go_wp2_with fail
    refine HCAL.out.mono ?_
    rintro e w2 ⟨⟨a2, rfl, hcut⟩, rfl⟩
    have HCUT := Hid.mk hcut
    clear hcut
    go_wp2_with fail
    go_ret3
    exact ⟨⟨a2, _, rfl, HCUT.out⟩, HB.out⟩
  ·
   rw [hbad (.inr ⟨by omega, hs⟩)]
   simp only
   clear hbad hgood
   have hsb : (x % 16 != 0) = true := by rw [bne_iff_ne]; exact hs
   clear hs
   go_enter Tryz.func154, Tryz.ntmps154
   go_wp2_with fail
   go_region
   all_goals
    go_wp2_with fail
    go_ret3
    exact ⟨⟨none, 0, rfl, ag_nil _, fun h => by omega⟩, (Below.refl _ _).drew⟩
 ·
  have c1 : bits BinOp.and IntKind.u8 3 1 = 1 := by decide +kernel
  have c2 : bits BinOp.and IntKind.u8 3 2 = 2 := by decide +kernel
  rw [hgood (by unfold badU; omega), if_neg (by omega)]
  simp only
  rw [decide_eq_true (by omega)]
  clear hbad hgood
  go_enter Tryz.func154, Tryz.ntmps154
  go_wp2_with fail
  go_region
  all_goals
   go_wp2_with fail
   refine (HOF.out _ (Below.refl _ _).drew).mono ?_
   rintro e w1 ⟨⟨a1, rfl, hcut⟩, hb⟩
   have hcal := Zc7 a1 (2 * n) (2 * n) 1 w.heap.size (nib b) w1 (by omega) (Nat.le_refl _) (by unfold maxLen; omega) (by omega) hcut.ag hcut.own
   rw [show ((1 : Nat) : Int) = 1 from rfl] at hcal
   have HCAL := Hid.mk hcal
   have HB := Hid.mk (((Below.refl w.heap.size w).drew).trans hb)
   clear hcal hcut hb
   go_wp2_with fail
   refine HCAL.out.mono ?_
   rintro e w2 ⟨⟨a2, rfl, hcut⟩, rfl⟩
   have HCUT := Hid.mk hcut
   clear hcut
   go_wp2_with fail
   go_ret3
   exact ⟨⟨a2, _, rfl, HCUT.out⟩, HB.out⟩
end Go.Proofs.YtefhepcplempkaaGreat.Ni
namespace Go.Proofs.YtefhepcplempkaaGreat
open Go.RowKit
open Ni (unpP)
theorem Zbg {fn : Func} {p u : Tmp} (h : fn.results = #[.cell p 68, .tmp u]) (tmps : Array Value) (w : World) (g : Nat) (y : NV) (hl : y.c.d.length = 32) (hp : tmps.getD p undef = .pointer (some ⟨g, 0, none⟩)) (hg : w.heap[g]? = some (.cells y.cells.toArray 68)) :
  (results fn tmps).run Tryz.prog w = .ok (.tuple #[.agg y.cells.toArray, tmps.getD u undef]) w := by
 have hp' : tmps[p]?.getD undef = .pointer (some ⟨g, 0, none⟩) := by simpa using hp
 have hr := run_loadVar_row (P := Tryz.prog) w g 68 68 y.cells.toArray (0, 0) _ hg Tryz.underlying68 rfl (by rw [Zdi, List.size_toArray, NV.len hl])
 simp [results, h, hp', asAddr, hr]
theorem Zea {fn : Func} {p u : Tmp} (h : fn.results = #[.cell p 68, .tmp u]) {post : Ending -> World -> Prop} {Q : Exit -> Act -> World -> Prop} {a : Act} {w : World} (hQ : bodyPost Tryz.prog fn post .ret a w -> Q .ret a w) (g : Nat) (y : NV) (vv : Value) (hl : y.c.d.length = 32)
  (hp : a.tmps.getD p undef = .pointer (some ⟨g, 0, none⟩)) (hu : a.tmps.getD u undef = vv) (hd : a.defers = []) (hg : w.heap[g]? = some (.cells y.cells.toArray 68)) (hpost : post (.returned (.tuple #[.agg y.cells.toArray, vv])) w) :
  Code.wp Tryz.prog .ret Q a w := by
 subst hu
 exact wp_ret (hQ <| bodyPost_ret (Zbg h a.tmps w g y hl hp hg) hd hpost)
def OwnP (P : Nat -> Prop) (w : World) (g : Nat) : Prop := P g /\ ∀ o, w.frozen? ⟨g, o, none⟩ = false
theorem Keep.setRowP {P : Nat -> Prop} {base g : Nat} {v : World} {C : Array Value} (hg : g < base) (hP : ∀ k, base <= k -> P k) : Keep (Own base v) (OwnP P (v.setRow g C)) v (v.setRow g C) := fun k hK hk => by
 have e : (v.setRow g C).heap[k]? = v.heap[k]? := setRow_other _ _ _ _ (by have := hK.1; omega)
 exact ⟨e, hP k hK.1, fun o => (World.frozen?_of_block (w := v) e).trans (hK.2 o)⟩
def NPost (P : Nat -> Prop) (w : World) (o : Option PN) : Ending -> World -> Prop := fun e w' => Below w.heap.size w w' ∧
 match o with
 | none => ∃ y : NV, y.c.d.length = 32 /\ e = .returned (.tuple #[.agg y.cells.toArray, .bool false])
 | some n => ∃ y : NV, e = .returned (.tuple #[.agg y.cells.toArray, .bool true]) /\ NodeAt (OwnP P w') w' y n
theorem Zbk {y : NV} (h : y.c.d.length = 32) : (nz.cells.toArray : Array Value).size = y.cells.toArray.size := by rw [List.size_toArray, List.size_toArray, NV.len h]; rfl
theorem Zb2 {y : NV} (h : y.c.d.length = 32) : (Tryz.prog.info? 68).map (·.size) = some y.cells.toArray.size := by rw [Zdi, List.size_toArray, NV.len h]
structure Pn (w v : World) (x y : V) : Prop where
 row : v.heap[w.heap.size + 1 + 1]? = some (.cells nz.cells.toArray 68)
 bx : B1 w.heap.size v x
 by' : B1 (w.heap.size + 1) v y
 bel : Below w.heap.size w v
 sz : w.heap.size + 3 <= v.heap.size
theorem Pn.go {w v v' : World} {x y : V} (h : Pn w v x y) (hb : Below v.heap.size v v') : Pn w v' x y := ⟨Below.row hb h.row, h.bx.go hb, h.by'.go hb, below_go h.bel hb, Nat.le_trans h.sz hb.size⟩
theorem Zy5 (w : World) (x y : V) : Pn w (((w.alloc (.cells #[.bool x.l, .slice x.ba x.bn x.bc, .slice x.ia x.m x.ic] 109)).alloc (.cells #[.bool y.l, .slice y.ba y.bn y.bc, .slice y.ia y.m y.ic] 109)).alloc (.cells nz.cells.toArray 68)) x y := by
 generalize hw1 : w.alloc (.cells #[.bool x.l, .slice x.ba x.bn x.bc, .slice x.ia x.m x.ic] 109) = w1
 have s1 : w1.heap.size = w.heap.size + 1 := by rw [<- hw1]; simp
 have b1 : B1 w.heap.size w1 x := by rw [<- hw1]; exact Zf5 w x
 have l1 : Below w.heap.size w w1 := by rw [<- hw1]; exact below_new w _
 have b2 := Zf5 w1 y
 rw [s1] at b2
 generalize hw2 : w1.alloc (.cells #[.bool y.l, .slice y.ba y.bn y.bc, .slice y.ia y.m y.ic] 109) = w2 at b2 ⊢
 have s2 : w2.heap.size = w.heap.size + 1 + 1 := by rw [<- hw2]; simp [s1]
 have l2 : Below w1.heap.size w1 w2 := by rw [<- hw2]; exact below_new w1 _
 refine ⟨?_, (b1.go l2).alloc _, b2.alloc _, below_go (below_go l1 l2) (below_new _ _), by simp [s2]⟩
 rw [<- s2]
 exact heap_alloc_new _ _
theorem Zx1 {base m : Nat} {w w0 : World} {a : Option Addr} {bs : List Int} (h : Ni.Cut w base a m bs) (hm : m <= 140737488351232) : AgK (Own base w) w a m m bs := ⟨h.ag, hm, fun g off e h0 => by
 obtain ⟨g', off', cur, e', hb, hr⟩ := h.own h0
 rw [e] at e'
 cases e'
 exact ⟨hb, fun o => frozen_of_row _ _ _ _ _ hr⟩⟩
theorem Zkx {P : Nat -> Prop} {w : World} {l : Bool} {bs : List Int} {its : List T} {y : V} (h : LiesP P w (.mk l bs its) y) : AgK (OwnP P w) w y.ba y.bn y.bc bs := by
 obtain ⟨⟨_, h2, _, _, _, h6, h8⟩, _⟩ := liesP_eq.1 h
 exact ⟨h2, h6.1, fun g off e h0 => h8 g off e h0⟩
theorem Zbr {g h : Nat} {v : World} {y : V} {C : Array Value} (b : B1 g v y) (hne : g ≠ h) : B1 g (v.setRow h C) y := by
 have e : (v.setRow h C).heap[g]? = v.heap[g]? := setRow_other _ _ _ _ hne
 exact ⟨(World.cell?_of_block (w := v) e).trans b.c0, (World.cell?_of_block (w := v) e).trans b.c1, (World.cell?_of_block (w := v) e).trans b.c2⟩
theorem Znj (K : Nat -> Prop) (w : World) (a : Option Addr) : KidsAt K w a [] := fun j r hr => by simp at hr
set_option maxHeartbeats 4000000 in
theorem Zko (P : Nat -> Prop) (t u : T) (x y : V) (w : World) (hx : Lies w t x) (hy : LiesP P w u y) (hb : ∀ g, w.heap.size <= g -> P g) (hxn : t.bs.length <= 16777216) :
  Calls Tryz.prog 148 #[.agg #[.bool x.l, .slice x.ba x.bn x.bc, .slice x.ia x.m x.ic], .agg #[.bool y.l, .slice y.ba y.bn y.bc, .slice y.ia y.m y.ic]] w (NPost P w (pathP t u)) := by
 obtain ⟨l, bs, its⟩ := t
 obtain ⟨l2, bs2, its2⟩ := u
 obtain ⟨hl, hag, -⟩ := lies_eq.1 hx
 obtain ⟨⟨hl2, -⟩, -⟩ := liesP_eq.1 hy
 subst hl hl2
 have hxn : bs.length <= 16777216 := hxn
 have HAG := Hid.mk hag
 have HY := Hid.mk hy
 have HBASE := Hid.mk hb
 have HU := Hid.mk (show ∀ v, Below w.heap.size w v -> Calls Tryz.prog 154 #[.slice x.ba x.bn x.bc] v fun e w' => (∃ a' m, e = .returned (.tuple #[.slice a' m m, .bool (unpP bs).2.1, .int .i64 ((unpP bs).2.2 : Nat)]) /\ Ni.Cut w' v.heap.size a' m (unpP bs).1) /\ Below v.heap.size v w' from fun v hv => Ni.unpack_any _ _ _ _ v (hag.at hv) (by have := hag.l; omega))
 have HPL := Hid.mk (Ni.unp_le bs)
 have HXN := Hid.mk hxn
 obtain ⟨res, hres⟩ : ∃ res, pathP (.mk x.l bs its) (.mk y.l bs2 its2) = res := ⟨_, rfl⟩
 rw [hres]
 have hres : (if x.l = true \/ (unpP bs).2.2 ≠ 0 then none
  else if (unpP bs).2.1 = true then (if y.l = true then none else some (⟨1, (unpP bs).1, bs2, r0, []⟩ : PN))
  else match refOfP (.mk y.l bs2 its2) with
   | none => none
   | some c => some ⟨2, (unpP bs).1, [], c, []⟩) = res := hres
 obtain ⟨pp, hpp⟩ : ∃ pp, (unpP bs).1 = pp := ⟨_, rfl⟩
 obtain ⟨lf, hlf⟩ : ∃ lf, (unpP bs).2.1 = lf := ⟨_, rfl⟩
 obtain ⟨er, her⟩ : ∃ er, (unpP bs).2.2 = er := ⟨_, rfl⟩
 rw [hpp, hlf, her] at hres
 rw [hpp, hlf, her] at HU
 rw [hpp] at HPL
 have HRES := Hid.mk hres
 have HPN := Hid.mk (Zy5 w x y)
 clear hx hy hag hb hxn hres hpp hlf her
 go_enter Tryz.func148, Tryz.ntmps148
 go_upto_region 1 with fail
 refine gen_w (p := fun v => Code.wp _ _ _ _ v) (q := fun v => Pn w v x y) HPN.out ?_
 clear HPN
 intro v P0
 have c1 := P0.bx.c1
 have HP0 := Hid.mk P0
 clear P0
 go_wp2_with fail
 refine (HU.out v HP0.out.bel).mono ?_
 rintro e w1 ⟨⟨a', m, rfl, hcut⟩, hb1⟩
 have P1 := HP0.out.go hb1
 have HM := Hid.mk (show m <= 140737488351232 from by have := hcut.ag.l; have := HPL.out; have := HXN.out; omega)
 have HPA := Hid.mk (Zx1 (w0 := w) hcut HM.out)
 have HVS := Hid.mk HP0.out.sz
 have c0 := P1.bx.c0
 have d0 := P1.by'.c0
 have d1 := P1.by'.c1
 have d2 := P1.by'.c2
 have HP1 := Hid.mk P1
 clear hcut hb1 P1 c1 HP0 HU
 by_cases hbad : x.l = true \/ er ≠ 0
 ·have hr := HRES.out
  rw [if_pos hbad] at hr
  subst hr
  by_cases hxl : x.l = true
  ·rw [hxl] at c0
   go_wp2_with (first | refine wpList_store_row rfl 68 _ _ rfl _ nz.cells.toArray rfl rfl 68 _ HP1.out.row (Zb2 rfl) (Zbk rfl) (all_oneCell_toArray (NV.one _)) ?_)
   refine bodyPost_ret (Zbg Tryz.results148 _ _ (w.heap.size + 1 + 1) nz rfl rfl (setRow_heap _ _ _ _ _ _ HP1.out.row)) rfl ?_
   exact ⟨Below.setRow HP1.out.bel (by omega) _, nz, rfl, rfl⟩
  ·have hxf : x.l = false := by simpa using hxl
   have hee : ((er : Int) != 0) = true := by rw [bne_iff_ne]; have := hbad.resolve_left hxl; omega
   rw [hxf] at c0
   clear hxl hbad hxf
   go_wp2_with (first | refine wpList_store_row rfl 68 _ _ rfl _ nz.cells.toArray rfl rfl 68 _ HP1.out.row (Zb2 rfl) (Zbk rfl) (all_oneCell_toArray (NV.one _)) ?_)
   refine bodyPost_ret (Zbg Tryz.results148 _ _ (w.heap.size + 1 + 1) nz rfl rfl (setRow_heap _ _ _ _ _ _ HP1.out.row)) rfl ?_
   exact ⟨Below.setRow HP1.out.bel (by omega) _, nz, rfl, rfl⟩
 ·have hr := HRES.out
  rw [if_neg hbad] at hr
  have hxf : x.l = false := by cases hq : x.l with
   | false => rfl
   | true => exact absurd (.inl hq) hbad
  have he0 : er = 0 := Decidable.byContradiction fun h => hbad (.inr h)
  subst he0
  rw [hxf] at c0
  rw [show ((0 : Nat) : Int) = 0 from rfl]
  clear hxf hbad HRES
  cases lf with
  | true =>
   rw [if_pos rfl] at hr
   have HR := Hid.mk hr
   clear hr
   go_upto_region 5 with fail
   rename_i KK hkk
   refine wp_region_held_drew (S := fun v => B1 (w.heap.size + 1) v y) (by kernel_rfl) ⟨HP1.out.by'.c0, HP1.out.by'.c1, HP1.out.by'.c2⟩ (fun hS => ?_)
   refine Zax 0 26 (.slice a' m m) rfl rfl (by kernel_rfl) (by kernel_rfl) (by kernel_rfl) (fun _ _ _ h => h) (by kernel_rfl) (fun v _ => by kernel_rfl) hS <| Zax 1 27 (.pointer (some ⟨w.heap.size + 1, 1, none⟩)) rfl rfl (by kernel_rfl) (by kernel_rfl) (by kernel_rfl) (fun _ _ _ h => h) (by kernel_rfl) (fun v _ => by kernel_rfl) hS <| Zax 2 28 (.slice y.ba y.bn y.bc) rfl rfl (by kernel_rfl) (by kernel_rfl) (by kernel_rfl) (fun _ _ _ h => h) (by kernel_rfl) (fun v hv => Zi8 rfl (by kernel_rfl) hv.c1) hS <| Zax 3 29 (.agg (NV.cells ⟨1, a', m, m, y.ba, y.bn, y.bc, rz, none, 0, 0⟩).toArray) rfl rfl (by kernel_rfl) (by kernel_rfl) (by kernel_rfl) (fun _ _ _ h => h) (by kernel_rfl) (fun v _ => Zd4 68 _ rfl [(0, .int .i64 1), (1, .slice a' m m), (2, .slice y.ba y.bn y.bc)] (by kernel_rfl) _ (Zj0 _ _ _ _ _ _)) hS <| Zax 4 30 (.pointer (some ⟨w.heap.size + 1, 0, none⟩)) rfl rfl (by kernel_rfl) (by kernel_rfl) (by kernel_rfl) (fun _ _ _ h => h) (by kernel_rfl) (fun v _ => by kernel_rfl) hS <| Zax 5 31 (.bool y.l) rfl rfl (by kernel_rfl) (by kernel_rfl) (by kernel_rfl) (fun _ _ _ h => h) (by kernel_rfl) (fun v hv => Zmz rfl (by kernel_rfl) hv.c0) hS <| Zax 6 32 (.bool (!y.l)) rfl rfl (by kernel_rfl) (by kernel_rfl) (by kernel_rfl) (fun _ _ _ h => h) (by kernel_rfl) (fun v _ => by kernel_rfl) hS <| wpAnyH_ready (rs := [7]) (by kernel_rfl) (by simp) ?_
   refine Zdr 7 rfl rfl (by kernel_rfl) (Zcd 68 _ _ rfl (w.heap.size + 1 + 1) (NV.cells ⟨1, a', m, m, y.ba, y.bn, y.bc, rz, none, 0, 0⟩).toArray (by kernel_rfl) (by kernel_rfl) 68 nz.cells.toArray HP1.out.row (Zb2 rfl) (Zbk rfl) (all_oneCell_toArray (NV.one _))) ?_ ?_ AllReadyH.nil
   ·exact Zbr hS (by omega)
   refine Zax 8 5 (.bool (!y.l)) rfl rfl (by kernel_rfl) (by kernel_rfl) (by kernel_rfl) (fun _ _ _ h => h) (by kernel_rfl) (fun v _ => by kernel_rfl) (Zbr hS (by omega)) ?_
   refine wpAnyH_done (by kernel_rfl) ?_ _
   refine hkk _ _ <| Zea Tryz.results148 (fun h => h) (w.heap.size + 1 + 1) ⟨1, a', m, m, y.ba, y.bn, y.bc, rz, none, 0, 0⟩ (.bool (!y.l)) rfl (by kernel_rfl) (by kernel_rfl) (by kernel_rfl) (setRow_heap _ _ _ _ _ _ HP1.out.row) ?_
   have hr := HR.out
   refine ⟨Below.setRow HP1.out.bel.drew (by omega) _, ?_⟩
   cases hyl : y.l with
   | true =>
    rw [hyl, if_pos rfl] at hr
    subst hr
    exact ⟨⟨1, a', m, m, y.ba, y.bn, y.bc, rz, none, 0, 0⟩, rfl, rfl⟩
   | false =>
    rw [hyl, if_neg (by simp)] at hr
    subst hr
    have hk1 : Keep (Own v.heap.size w1) (OwnP P (w1.drew.setRow (w.heap.size + 1 + 1) (NV.cells ⟨1, a', m, m, y.ba, y.bn, y.bc, rz, none, 0, 0⟩).toArray)) w1 (w1.drew.setRow (w.heap.size + 1 + 1) (NV.cells ⟨1, a', m, m, y.ba, y.bn, y.bc, rz, none, 0, 0⟩).toArray) :=
     Keep.setRowP (v := w1.drew) (base := v.heap.size) (by have := HVS.out; omega) (fun k hk => HBASE.out k (by have := HVS.out; omega))
    have hk2 : Keep (OwnP P w) (OwnP P (w1.drew.setRow (w.heap.size + 1 + 1) (NV.cells ⟨1, a', m, m, y.ba, y.bn, y.bc, rz, none, 0, 0⟩).toArray)) w (w1.drew.setRow (w.heap.size + 1 + 1) (NV.cells ⟨1, a', m, m, y.ba, y.bn, y.bc, rz, none, 0, 0⟩).toArray) := fun k hK hk => by
     have e : ((w1.drew.setRow (w.heap.size + 1 + 1) (NV.cells ⟨1, a', m, m, y.ba, y.bn, y.bc, rz, none, 0, 0⟩).toArray)).heap[k]? = w.heap[k]? := (setRow_other _ _ _ _ (by omega)).trans (HP1.out.bel.block k hk)
     exact ⟨e, hK.1, fun o => (World.frozen?_of_block (w := w) e).trans (hK.2 o)⟩
    exact ⟨⟨1, a', m, m, y.ba, y.bn, y.bc, rz, none, 0, 0⟩, rfl, rfl, HPA.out.go hk1, (Zkx HY.out).go hk2, Zfg _ _, ⟨rfl, Nat.zero_le _, Nat.zero_le _, Nat.zero_le _, fun _ => ⟨rfl, rfl⟩⟩, Znj _ _ _⟩
  | false =>
   rw [if_neg (by simp)] at hr
   have HR := Hid.mk hr
   have HRO := Hid.mk (Zki (.mk y.l bs2 its2) y w1 (Zcl HP1.out.bel _ y (Zch _ _ HY.out)))
   clear hr
   go_wp2_with fail
   refine HRO.out.mono ?_
   intro e w2 hp
   obtain ⟨hb2, hp⟩ := hp
   have HP2 := Hid.mk (HP1.out.go hb2)
   have HW1 := Hid.mk HP1.out.sz
   have hr := HR.out
   cases hq : refOfP (.mk y.l bs2 its2) with
   | none =>
    rw [hq] at hp hr
    subst hr
    obtain ⟨y', hyl', rfl⟩ := hp
    have HYL := Hid.mk hyl'
    clear hb2 hq hyl'
    go_upto_region 7 with (first | refine wpList_store_row rfl 65 _ _ rfl _ y'.cells.toArray rfl rfl 65 _ (heap_alloc_new _ _) (Zcu HYL.out) (Zb3 HYL.out) (all_oneCell_toArray (RV.one _)) ?_)
    refine gen_w (p := fun v => Code.wp _ _ _ _ v) (q := fun u => RBx w2.heap.size u y' /\ Pn w u x y) ⟨⟨setRow_heap _ _ _ _ _ _ (heap_alloc_new _ _), HYL.out⟩, HP2.out.go (Below.setRow (below_new w2 _) (Nat.le_refl _) _)⟩ ?_
    rintro v3 ⟨B3, P3⟩
    have HB3 := Hid.mk B3
    have HP3 := Hid.mk P3
    clear B3 P3
    rename_i KK hkk
    refine wp_region_lit <| Zca 38 (.slice a' m m) rfl (by kernel_rfl) (by kernel_rfl) <| Zca 39 (.agg y'.cells.toArray) rfl (by kernel_rfl) (Zgz rfl (by kernel_rfl) HYL.out HB3.out.all) <| Zca 40 (.agg (NV.cells ⟨2, a', m, m, none, 0, 0, y', none, 0, 0⟩).toArray) rfl (by kernel_rfl) (Zd4 68 _ rfl [(0, .int .i64 2), (1, .slice a' m m), (3, .agg y'.cells.toArray)] (by kernel_rfl) _ (Zjz _ _ _ _ HYL.out)) <| Zca 41 (.bool false) rfl (by kernel_rfl) (by kernel_rfl) <| Zlm rfl (by kernel_rfl) (Zcd 68 _ _ rfl (w.heap.size + 1 + 1) (NV.cells ⟨2, a', m, m, none, 0, 0, y', none, 0, 0⟩).toArray (by kernel_rfl) (by kernel_rfl) 68 nz.cells.toArray HP3.out.row (Zb2 HYL.out) (Zbk HYL.out) (all_oneCell_toArray (NV.one _))) <| Zca 5 (.bool false) rfl (by kernel_rfl) (by kernel_rfl) <| hkk _ _ <| Zea Tryz.results148 (fun h => h) (w.heap.size + 1 + 1) ⟨2, a', m, m, none, 0, 0, y', none, 0, 0⟩ (.bool false) HYL.out (by kernel_rfl) (by kernel_rfl) (by kernel_rfl) (setRow_heap _ _ _ _ _ _ HP3.out.row) ?_
    exact ⟨Below.setRow HP3.out.bel (by omega) _, ⟨2, a', m, m, none, 0, 0, y', none, 0, 0⟩, HYL.out, rfl⟩
   | some c =>
    rw [hq] at hp hr
    subst hr
    obtain ⟨y', rfl, hy'⟩ := hp
    have HYL := Hid.mk hy'.len
    have HYR := Hid.mk hy'
    have HB2 := Hid.mk hb2
    clear hb2 hq hy'
    go_upto_region 7 with (first | refine wpList_store_row rfl 65 _ _ rfl _ y'.cells.toArray rfl rfl 65 _ (heap_alloc_new _ _) (Zcu HYL.out) (Zb3 HYL.out) (all_oneCell_toArray (RV.one _)) ?_)
    refine gen_w (p := fun v => Code.wp _ _ _ _ v) (q := fun u => RBx w2.heap.size u y' /\ Pn w u x y /\ Below w2.heap.size w2 u) ⟨⟨setRow_heap _ _ _ _ _ _ (heap_alloc_new _ _), HYL.out⟩, HP2.out.go (Below.setRow (below_new w2 _) (Nat.le_refl _) _), Below.setRow (below_new w2 _) (Nat.le_refl _) _⟩ ?_
    rintro v3 ⟨B3, P3, b3⟩
    have HB3 := Hid.mk B3
    have HP3 := Hid.mk P3
    have HBB := Hid.mk b3
    clear b3
    clear B3 P3
    rename_i KK hkk
    refine wp_region_lit <| Zca 38 (.slice a' m m) rfl (by kernel_rfl) (by kernel_rfl) <| Zca 39 (.agg y'.cells.toArray) rfl (by kernel_rfl) (Zgz rfl (by kernel_rfl) HYL.out HB3.out.all) <| Zca 40 (.agg (NV.cells ⟨2, a', m, m, none, 0, 0, y', none, 0, 0⟩).toArray) rfl (by kernel_rfl) (Zd4 68 _ rfl [(0, .int .i64 2), (1, .slice a' m m), (3, .agg y'.cells.toArray)] (by kernel_rfl) _ (Zjz _ _ _ _ HYL.out)) <| Zca 41 (.bool true) rfl (by kernel_rfl) (by kernel_rfl) <| Zlm rfl (by kernel_rfl) (Zcd 68 _ _ rfl (w.heap.size + 1 + 1) (NV.cells ⟨2, a', m, m, none, 0, 0, y', none, 0, 0⟩).toArray (by kernel_rfl) (by kernel_rfl) 68 nz.cells.toArray HP3.out.row (Zb2 HYL.out) (Zbk HYL.out) (all_oneCell_toArray (NV.one _))) <| Zca 5 (.bool true) rfl (by kernel_rfl) (by kernel_rfl) <| hkk _ _ <| Zea Tryz.results148 (fun h => h) (w.heap.size + 1 + 1) ⟨2, a', m, m, none, 0, 0, y', none, 0, 0⟩ (.bool true) HYL.out (by kernel_rfl) (by kernel_rfl) (by kernel_rfl) (setRow_heap _ _ _ _ _ _ HP3.out.row) ?_
    have hk1 : Keep (Own v.heap.size w1) (OwnP P (v3.setRow (w.heap.size + 1 + 1) (NV.cells ⟨2, a', m, m, none, 0, 0, y', none, 0, 0⟩).toArray)) w1 (v3.setRow (w.heap.size + 1 + 1) (NV.cells ⟨2, a', m, m, none, 0, 0, y', none, 0, 0⟩).toArray) := fun k hK hk => by
     have e : ((v3.setRow (w.heap.size + 1 + 1) (NV.cells ⟨2, a', m, m, none, 0, 0, y', none, 0, 0⟩).toArray)).heap[k]? = w1.heap[k]? := (setRow_other _ _ _ _ (by have := hK.1; have := HVS.out; omega)).trans ((HBB.out.block k (Nat.lt_of_lt_of_le hk HB2.out.size)).trans (HB2.out.block k hk))
     exact ⟨e, HBASE.out k (by have := hK.1; have := HVS.out; omega), fun o => (World.frozen?_of_block (w := w1) e).trans (hK.2 o)⟩
    have hk2 : Keep (Own w1.heap.size w2) (OwnP P (v3.setRow (w.heap.size + 1 + 1) (NV.cells ⟨2, a', m, m, none, 0, 0, y', none, 0, 0⟩).toArray)) w2 (v3.setRow (w.heap.size + 1 + 1) (NV.cells ⟨2, a', m, m, none, 0, 0, y', none, 0, 0⟩).toArray) := fun k hK hk => by
     have e : ((v3.setRow (w.heap.size + 1 + 1) (NV.cells ⟨2, a', m, m, none, 0, 0, y', none, 0, 0⟩).toArray)).heap[k]? = w2.heap[k]? := (setRow_other _ _ _ _ (by have := hK.1; have := HW1.out; omega)).trans (HBB.out.block k hk)
     exact ⟨e, HBASE.out k (by have := hK.1; have := HW1.out; omega), fun o => (World.frozen?_of_block (w := w2) e).trans (hK.2 o)⟩
    exact ⟨Below.setRow HP3.out.bel (by omega) _, ⟨2, a', m, m, none, 0, 0, y', none, 0, 0⟩, rfl, rfl, HPA.out.go hk1, Zhv _ _, HYR.out.go hk2, ⟨rfl, Nat.zero_le _, Nat.zero_le _, Nat.zero_le _, fun _ => ⟨rfl, rfl⟩⟩, Znj _ _ _⟩
end Go.Proofs.YtefhepcplempkaaGreat

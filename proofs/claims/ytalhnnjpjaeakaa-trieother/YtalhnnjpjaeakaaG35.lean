/- What Refer, EmptyRoot and EmptyCode answer, the program's and the document's. -/
import Derived.Test.YtalhnnjpjaeakaaG29
import Derived.Test.YtalhnnjpjaeakaaG04
import Derived.Test.YtalhnnjpjaeakaaG34
import Derived.Test.YtalhnnjpjaeakaaG28
namespace Go.Proofs.Ytalhnnjpjaeakaa
open Go.RowKit
open Di (dref)
set_option linter.unusedVariables false
set_option maxRecDepth 100000
theorem h_at {w v : World} {a : Option Addr} {n c : Nat} {b : List Int} (h : Ag w a n c b) (hb : Below w.heap.size w v) : Ag v a n c b := h.at hb
theorem dof_any (a : Option Addr) (n c : Nat) (b : List Int) (w : World) (h : Ag w a n c b) (hn : n ≤ 140737488351232) : Calls Try.prog 18 #[.slice a n c] w fun e w' => e = .returned (.agg (B8 (dref b))) ∧ Below w.heap.size w w' :=
  Di.of_any a n c b w h.i h.l.symm h.b (by omega)
theorem rdof_any (a : Option Addr) (n c : Nat) (b : List Int) (w : World) (h : Ag w a n c b) (hn : n ≤ 140737488351232) : Calls Try.prog 20 #[.slice a n c] w fun e w' => e = .returned (.agg (B8 (dref b))) ∧ Below w.heap.size w w' :=
  Di.rof_any a n c b w (h.i.inB h.nil) h.b (by rw [h.l]; exact hn)
theorem dref_len (b : List Int) : (dref b).length = 32 := Di.dref_len b
theorem dref_isB (b : List Int) : isB (dref b) := fun x hx => by
  unfold dref Di.dig at hx
  obtain ⟨i, _, rfl⟩ := List.mem_map.1 hx
  unfold Di.bt
  omega
end Go.Proofs.Ytalhnnjpjaeakaa
/- What refOf answers. -/
namespace Go.Proofs.Ytalhnnjpjaeakaa
open Go.RowKit
set_option linter.unusedVariables false
set_option maxRecDepth 100000
theorem results_ref {fn : Func} {p u : Tmp} (h : fn.results = #[.cell p 74, .tmp u]) (tmps : Array Value) (w : World) (g : Nat) (y : RV) (hl : y.d.length = 32) (hp : tmps.getD p undef = .pointer (some ⟨g, 0, none⟩)) (hg : w.heap[g]? = some (.cells y.cells.toArray 74)) :
    (results fn tmps).run Try.prog w = .ok (.tuple #[.agg y.cells.toArray, tmps.getD u undef]) w := by
  have hp' : tmps[p]?.getD undef = .pointer (some ⟨g, 0, none⟩) := by simpa using hp
  have hr := run_loadVar_row (P := Try.prog) w g 74 74 y.cells.toArray (0, 0) _ hg Try.underlying74 rfl (by rw [infoR, List.size_toArray, RV.len hl])
  simp [results, h, hp', asAddr, hr]
/-- What refOf tells. -/
def RPost (w : World) (o : Option PR) : Ending → World → Prop := fun e w' => Below w.heap.size w w' ∧
  match o with
  | none => ∃ y : RV, y.d.length = 32 ∧ e = .returned (.tuple #[.agg y.cells.toArray, .bool false])
  | some r => ∃ y : RV, e = .returned (.tuple #[.agg y.cells.toArray, .bool true]) ∧ RefAt (Own w.heap.size w') w' y r
theorem agk_nil (K : Nat → Prop) (w : World) : AgK K w none 0 0 [] := ⟨⟨.inl ⟨rfl, rfl⟩, fun _ => ⟨rfl, rfl⟩, rfl, fun x hx => by cases hx⟩, by omega, fun g off e => by cases e⟩
theorem isB_z32 : isB z32 := fun x hx => by rw [z32, List.mem_replicate] at hx; omega
theorem refAt_zero (K : Nat → Prop) (w : World) : RefAt K w rz r0 := ⟨rfl, rfl, isB_z32, rfl, agk_nil K w⟩
theorem rz_size {y : RV} (h : y.d.length = 32) : (rz.cells.toArray : Array Value).size = y.cells.toArray.size := by rw [List.size_toArray, List.size_toArray, RV.len h]; rfl
theorem infoR' {y : RV} (h : y.d.length = 32) : (Try.prog.info? 74).map (·.size) = some y.cells.toArray.size := by rw [infoR, List.size_toArray, RV.len h]
/-- The item's box and the result's, while refOf goes on. -/
structure Rr (w v : World) (x : V) : Prop where
  row : v.heap[w.heap.size + 1]? = some (.cells rz.cells.toArray 74)
  bx : B1 w.heap.size v x
  bel : Below w.heap.size w v
  sz : w.heap.size + 2 ≤ v.heap.size
theorem Rr.go {w v v' : World} {x : V} (h : Rr w v x) (hb : Below v.heap.size v v') : Rr w v' x := ⟨Below.row hb h.row, h.bx.go hb, below_go h.bel hb, Nat.le_trans h.sz hb.size⟩
theorem rr_new (w : World) (x : V) : Rr w ((w.alloc (.cells #[.bool x.l, .slice x.ba x.bn x.bc, .slice x.ia x.m x.ic] 64)).alloc (.cells rz.cells.toArray 74)) x := by
  have s1 : (w.alloc (.cells #[.bool x.l, .slice x.ba x.bn x.bc, .slice x.ia x.m x.ic] 64)).heap.size = w.heap.size + 1 := by simp
  refine ⟨?_, (b1_new w x).alloc _, below_go (below_new w _) (below_new _ _), by simp⟩
  have := heap_alloc_new (w.alloc (.cells #[.bool x.l, .slice x.ba x.bn x.bc, .slice x.ia x.m x.ic] 64)) (.cells rz.cells.toArray 74)
  rwa [s1] at this
theorem Keep.setRow {base base' g : Nat} {v : World} {C : Array Value} (hg : g < base) (hb : base' ≤ base) : Keep (Own base v) (Own base' (v.setRow g C)) v (v.setRow g C) := fun k hK hk => by
  have e : (v.setRow g C).heap[k]? = v.heap[k]? := setRow_other _ _ _ _ (by have := hK.1; omega)
  exact ⟨e, Nat.le_trans hb hK.1, fun o => (World.frozen?_of_block (w := v) e).trans (hK.2 o)⟩
theorem copy_dig {w : World} {N sc : Nat} {ad : Addr} {bs : List Int} (hN : w.heap[N]? = some (.cells (RV.cells ⟨2, z32, none, 0, 0⟩).toArray 74)) (hl : bs.length = 32) (hsrc : ∀ j v, (bs.map (Value.int .u8))[j]? = some v → w.cell? (ad.add j) = some v) (ty : TypeId) :
    (Builtin.copy_ #[23, 23] ty #[.slice (some ⟨N, 1, none⟩) 32 32, .slice (some ad) 32 sc]).run Try.prog w = .ok (.int .i64 32) (w.setRow N (RV.cells ⟨2, bs, none, 0, 0⟩).toArray) := by
  have h := run_copy_row Try.prog w 23 23 ty 5 N 1 32 32 ad 32 sc (RV.cells ⟨2, z32, none, 0, 0⟩).toArray 74 (bs.map (Value.int .u8)) Try.underlying23 (by kernel_rfl) hN (by rw [List.length_map, hl]; rfl) hsrc (by rw [List.length_map, hl]; decide) (B8_one2 _)
  rw [h, List.length_map, hl]
  rfl
set_option maxHeartbeats 4000000 in
theorem refOf_any (t : T) (x : V) (w : World) (h : Lies w t x) :
    Calls Try.prog 70 #[.agg #[.bool x.l, .slice x.ba x.bn x.bc, .slice x.ia x.m x.ic]] w (RPost w (refOfP t)) := by
  obtain ⟨l, bs, its⟩ := t
  obtain ⟨hl, hag, -⟩ := lies_eq.1 h
  have hbn : x.bn ≤ 140737488351232 := (lies_eq.1 h).2.2.2.2.2.1.1
  subst hl
  have HX := Hid.mk h
  have HAG := Hid.mk hag
  obtain ⟨res, hres⟩ : ∃ res, refOfP (.mk x.l bs its) = res := ⟨_, rfl⟩
  rw [hres]
  have hres : (if x.l = true then (if (mP (.mk x.l bs its)).2 = 0 then some (⟨1, z32, enc (.mk x.l bs its)⟩ : PR) else none) else if bs.length = 0 then some r0 else if bs.length = 32 then some ⟨2, bs, []⟩ else none) = res := hres
  rw [hag.l] at hres
  have HRES := Hid.mk hres
  have HRR := Hid.mk (rr_new w x)
  clear h hag hres
  go_enter Try.func70, Try.ntmps70
  go_upto_region 1 with fail
  refine gen_w (p := fun v => Code.wp _ _ _ _ v) (q := fun v => Rr w v x) HRR.out ?_
  clear HRR
  intro v RR
  have c0 := RR.bx.c0
  have c1 := RR.bx.c1
  have c2 := RR.bx.c2
  have HRR := Hid.mk RR
  clear RR
  by_cases hxl : x.l = true
  · have HE := Hid.mk (encode_own (.mk x.l bs its) x v (lies_mono HRR.out.bel _ x HX.out))
    have HXL := Hid.mk hxl
    obtain ⟨xl, exl⟩ : ∃ xl, x.l = xl := ⟨_, rfl⟩
    have hres := HRES.out
    rw [if_pos hxl] at hres
    rw [hxl] at c0
    by_cases hm : (mP (.mk x.l bs its)).2 = 0
    · rw [if_pos hm] at hres
      subst hres
      have hp := encP_yes hm
      have hle := enc_le hm
      rw [hp] at HE
      have HHLE := Hid.mk hle
      rw [show (((enc (T.mk x.l bs its), 0) : List Int × Nat).2 : Int) = 0 from rfl] at HE
      rw [show ((enc (T.mk x.l bs its), 0) : List Int × Nat).1 = enc (T.mk x.l bs its) from rfl] at HE
      generalize hen : enc (T.mk x.l bs its) = en at HE HHLE ⊢
      have hEx := HE.out
      rw [hxl] at hEx
      have HE2 := Hid.mk hEx
      have HEN := Hid.mk hen
      clear hp hle hm hen HE HRES hEx exl
      go_wp2_with fail
      refine HE2.out.mono ?_
      rintro e w1 ⟨⟨a, n, c, rfl, hag, hfr⟩, hb⟩
      have R1 := HRR.out.go hb
      have HAGK := Hid.mk (show AgK (Own (w.heap.size + 2) w1) w1 a n c en from ⟨hag, by have := hag.l; have := HHLE.out; omega, fun g off e h0 => by
        have := hfr g off e h0
        exact ⟨by have := HRR.out.sz; omega, this.2⟩⟩)
      have HR1 := Hid.mk R1
      have hl32 : z32.length = 32 := rfl
      clear hag hfr hb R1
      go_wp2_with (first | refine wpList_store_row rfl 74 _ _ rfl _ (RV.cells ⟨1, z32, a, n, c⟩).toArray rfl rfl 74 _ HR1.out.row (infoR' rfl) (rz_size rfl) (all_oneCell_toArray (RV.one _)) ?_)
      refine bodyPost_ret (results_ref Try.results70 _ _ (w.heap.size + 1) ⟨1, z32, a, n, c⟩ rfl rfl (setRow_heap _ _ _ _ _ _ HR1.out.row)) rfl ?_
      exact ⟨Below.setRow HR1.out.bel (by omega) _, ⟨1, z32, a, n, c⟩, rfl, rfl, rfl, isB_z32, rfl, by rw [HEN.out]; exact HAGK.out.go (Keep.setRow (base := w.heap.size + 2) (base' := w.heap.size) (g := w.heap.size + 1) (by omega) (by omega))⟩
    · rw [if_neg hm] at hres
      subst hres
      have hp := encP_no hm
      rw [hp] at HE
      obtain ⟨er, her⟩ : ∃ er, (mP (.mk x.l bs its)).2 = er := ⟨_, rfl⟩
      rw [her] at HE hm
      have hee : ((er : Int) == 0) = false := by rw [beq_eq_false_iff_ne]; omega
      have hEx := HE.out
      rw [hxl] at hEx
      have HE2 := Hid.mk hEx
      clear hp hm her HE HRES hEx exl
      go_wp2_with fail
      refine HE2.out.mono ?_
      rintro e w1 ⟨⟨a, n, c, rfl, hag, hfr⟩, hb⟩
      have HR1 := Hid.mk (HRR.out.go hb)
      clear hag hfr hb
      go_wp2_with (first | refine wpList_store_row rfl 74 _ _ rfl _ (RV.cells ⟨1, z32, a, n, c⟩).toArray rfl rfl 74 _ HR1.out.row (infoR' rfl) (rz_size rfl) (all_oneCell_toArray (RV.one _)) ?_)
      refine bodyPost_ret (results_ref Try.results70 _ _ (w.heap.size + 1) ⟨1, z32, a, n, c⟩ rfl rfl (setRow_heap _ _ _ _ _ _ HR1.out.row)) rfl ?_
      exact ⟨Below.setRow HR1.out.bel (by omega) _, ⟨1, z32, a, n, c⟩, rfl, rfl⟩
  · have hres := HRES.out
    rw [if_neg hxl] at hres
    have hxf : x.l = false := by simpa using hxl
    rw [hxf] at c0
    clear hxf hxl HRES HX
    by_cases h0 : x.bn = 0
    · rw [if_pos h0] at hres
      subst hres
      go_wp2_with (first | refine wpList_store_row rfl 74 _ _ rfl _ rz.cells.toArray rfl rfl 74 _ HRR.out.row (infoR' rfl) (rz_size rfl) (all_oneCell_toArray (RV.one _)) ?_)
      refine bodyPost_ret (results_ref Try.results70 _ _ (w.heap.size + 1) rz rfl rfl (setRow_heap _ _ _ _ _ _ HRR.out.row)) rfl ?_
      exact ⟨Below.setRow HRR.out.bel (by omega) _, rz, rfl, refAt_zero _ _⟩
    · rw [if_neg h0] at hres
      by_cases h32 : x.bn = 32
      · rw [if_pos h32] at hres
        subst hres
        have hz := HAG.out
        rw [h32] at hz c1
        obtain ⟨g, off, hba, _, _, hcs⟩ := ag_head hz (by omega)
        rw [hba] at c1
        have HBL := Hid.mk hz.l
        have HBB := Hid.mk hz.b
        have HCS := Hid.mk (show ∀ u, Below w.heap.size w u → ∀ j z, (bs.map (Value.int .u8))[j]? = some z → u.cell? ((⟨g, off, none⟩ : Addr).add j) = some z from fun u hu j z hz' => by
          have hj : j < 32 := by have := (List.getElem?_eq_some_iff.1 hz').1; rw [List.length_map, HBL.out] at this; exact this
          rw [addr_add, below_cell hu (hcs j hj), ← hz', List.getElem?_map, List.getD, List.getElem?_eq_getElem (by rw [HBL.out]; exact hj)]
          rfl)
        have HRB := Hid.mk hba
        have HR32 := Hid.mk h32
        clear hz hcs h0 h32 hba
        go_upto_region 9 with (first | refine wpList_store_row rfl 74 _ _ rfl _ (RV.cells ⟨2, z32, none, 0, 0⟩).toArray rfl rfl 74 _ (heap_alloc_new _ _) (infoR' rfl) (rz_size rfl) (all_oneCell_toArray (RV.one _)) ?_)
        refine gen_w (p := fun v => Code.wp _ _ _ _ v) (q := fun u => RBx v.heap.size u ⟨2, z32, none, 0, 0⟩ ∧ Rr w u x) ⟨⟨setRow_heap _ _ _ _ _ _ (heap_alloc_new _ _), rfl⟩, ?_⟩ ?_
        · refine HRR.out.go (Below.setRow (below_new v _) (Nat.le_refl _) _)
        rintro u ⟨B2, R2⟩
        have d1 := R2.bx.c1
        rw [show x.ba = some ⟨g, off, none⟩ from HRB.out] at d1
        rw [HR32.out] at d1
        have HCP := Hid.mk (copy_dig (w := u.drew) (N := v.heap.size) (sc := x.bc) B2.row HBL.out (HCS.out _ (R2.bel.drew)))
        have HB2 := Hid.mk B2
        have HR2 := Hid.mk R2
        have HVS := Hid.mk HRR.out.sz
        clear B2 R2 c0 c1 c2
        go_frame
        go_cut [] (fun u2 => RBx v.heap.size u2 ⟨2, bs, none, 0, 0⟩ ∧ u2.heap[w.heap.size + 1]? = some (.cells rz.cells.toArray 74) ∧ Below w.heap.size w u2)
        case first =>
          go_region_law (refine step_copy rfl _ _ 23 23 rfl _ _ rfl rfl (HCP.out _) ?_)
          all_goals
            go_wp2_with fail
            go_meet
            exact ⟨⟨setRow_heap _ _ _ _ _ _ HB2.out.row, HBL.out⟩, (setRow_other _ _ _ _ (by have := HVS.out; omega)).trans HR2.out.row, Below.setRow HR2.out.bel.drew (by have := HVS.out; omega) _⟩
        case rest =>
          obtain ⟨B3, r3, b3⟩ := hcut
          have HB3 := Hid.mk B3
          have HR3 := Hid.mk r3
          have HL3 := Hid.mk b3
          clear B3 r3 b3
          go_wp2_with (first | refine wpl_loadR rfl _ rfl v.heap.size 0 rfl ⟨2, bs, none, 0, 0⟩ HBL.out HB3.out.all ?_ | refine wpList_store_row rfl 74 _ _ rfl _ (RV.cells ⟨2, bs, none, 0, 0⟩).toArray rfl rfl 74 _ HR3.out (infoR' HBL.out) (rz_size HBL.out) (all_oneCell_toArray (RV.one _)) ?_)
          refine bodyPost_ret (results_ref Try.results70 _ _ (w.heap.size + 1) ⟨2, bs, none, 0, 0⟩ HBL.out rfl (setRow_heap _ _ _ _ _ _ HR3.out)) rfl ?_
          exact ⟨Below.setRow HL3.out (by omega) _, ⟨2, bs, none, 0, 0⟩, rfl, rfl, rfl, HBB.out, HBL.out, agk_nil _ _⟩
      · rw [if_neg h32] at hres
        subst hres
        go_wp2_with (first | refine wpList_store_row rfl 74 _ _ rfl _ rz.cells.toArray rfl rfl 74 _ HRR.out.row (infoR' rfl) (rz_size rfl) (all_oneCell_toArray (RV.one _)) ?_)
        refine bodyPost_ret (results_ref Try.results70 _ _ (w.heap.size + 1) rz rfl rfl (setRow_heap _ _ _ _ _ _ HRR.out.row)) rfl ?_
        exact ⟨Below.setRow HRR.out.bel (by omega) _, rz, rfl, rfl⟩
end Go.Proofs.Ytalhnnjpjaeakaa

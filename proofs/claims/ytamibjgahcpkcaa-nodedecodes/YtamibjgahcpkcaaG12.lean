/- What rightRef answers, where Decode of what is inline answers as it should. -/
import Derived.Test.YtamibjgahcpkcaaG11
namespace Go.Proofs.Ytamibjgahcpkcaa
open Go.RowKit
set_option linter.unusedVariables false
set_option maxRecDepth 100000
theorem z32_len : z32.length = 32 := rfl
set_option maxHeartbeats 2000000 in
theorem rightRef_any (K : Nat → Prop) (x : RV) (r : PR) (w : World) (h : RefAt K w x r) (hd : r.i.length < 32 → DecSaid r.i) :
    Calls Try.prog 47 #[.agg x.cells.toArray] w fun e w' => e = .returned (.bool (rrefP KD r)) ∧ Below w.heap.size w w' := by
  have B := rbx_new w x h.len
  have HB := Hid.mk (below_new w (.cells x.cells.toArray 26))
  have HK := Hid.mk (show x.n < 32 → ∀ v, Below w.heap.size w v → Calls Try.prog 48 #[.agg x.cells.toArray] v fun e w' => e = .returned (.int .i64 (KD r.i)) ∧ Below v.heap.size v w' from fun hx v hv => inlineKind_any K x r v (h.go (Keep.below hv)) (hd (by rw [h.2.2.2.2.l]; exact hx)))
  obtain ⟨res, hres⟩ : ∃ res, rrefP KD r = res := ⟨_, rfl⟩
  obtain ⟨kr, hkr⟩ : ∃ kr, KD r.i = kr := ⟨_, rfl⟩
  rw [hres]
  rw [hkr] at HK
  unfold rrefP at hres
  rw [hkr, ← h.1, ← h.2.1, h.2.2.2.2.l] at hres
  have HRES := Hid.mk hres
  have hl := h.len
  have hnb := h.2.2.2.2.2.1
  clear h hd hkr hres
  go_enter Try.func47, Try.ntmps47
  go_upto_region 1 with fail
  refine gen_w (p := fun v => Code.wp _ _ _ _ v) (q := fun v => RBx w.heap.size v x ∧ Below w.heap.size w v) ⟨B, HB.out⟩ ?_
  clear B HB
  rintro v ⟨B, hb⟩
  have HB := Hid.mk hb
  have HX := Hid.mk B
  have HLX := Hid.mk hl
  have c0 := B.c0
  have c1 := B.c33
  clear hb B hl
  by_cases h0 : x.k = 0
  · by_cases hz : x.d = z32
    · have HQ := Hid.mk (show (!(x.d == z32)) = false from by simp [hz])
      have HZ := Hid.mk hz
      clear hz
      go_wp2_with (first | refine wpl_loadD rfl _ rfl w.heap.size 1 rfl x.d HLX.out HX.out.digest ?_ | refine wpl_neD rfl _ _ rfl x.d z32 rfl rfl HLX.out z32_len false HQ.out ?_ | refine wpl_eqD rfl _ _ rfl x.d z32 rfl rfl HLX.out z32_len false HQ.out ?_ | refine wpl_loadR rfl _ rfl w.heap.size 0 rfl x HLX.out HX.out.all ?_)
      go_ret
      refine ⟨congrArg (fun b => Ending.returned (Value.bool b)) ?_, HB.out⟩
      rw [← HRES.out, Bool.eq_iff_iff]
      first | (simp [h0, HZ.out]; done) | (simp [h0, HZ.out]; omega)
    · have HQ := Hid.mk (show (!(x.d == z32)) = true from by simp [hz])
      have HZ := Hid.mk hz
      clear hz
      go_wp2_with (first | refine wpl_loadD rfl _ rfl w.heap.size 1 rfl x.d HLX.out HX.out.digest ?_ | refine wpl_neD rfl _ _ rfl x.d z32 rfl rfl HLX.out z32_len true HQ.out ?_ | refine wpl_eqD rfl _ _ rfl x.d z32 rfl rfl HLX.out z32_len true HQ.out ?_ | refine wpl_loadR rfl _ rfl w.heap.size 0 rfl x HLX.out HX.out.all ?_)
      go_ret
      refine ⟨congrArg (fun b => Ending.returned (Value.bool b)) ?_, HB.out⟩
      rw [← HRES.out, Bool.eq_iff_iff]
      first | (simp [h0, HZ.out]; done) | (simp [h0, HZ.out]; omega)
  · by_cases h2 : x.k = 2
    · go_wp2_with fail
      go_ret
      refine ⟨congrArg (fun b => Ending.returned (Value.bool b)) ?_, HB.out⟩
      rw [← HRES.out, Bool.eq_iff_iff]
      first | (simp [h2]; done) | (simp [h2]; omega)
    · by_cases h1 : x.k = 1
      · by_cases hz : x.d = z32
        · have HQ := Hid.mk (show (x.d == z32) = true from by simp [hz])
          have HZ := Hid.mk hz
          clear hz
          by_cases h32 : x.n < 32
          · have hi32 : (x.n : Int) < 32 := by omega
            go_wp2_with (first | refine wpl_loadD rfl _ rfl w.heap.size 1 rfl x.d HLX.out HX.out.digest ?_ | refine wpl_neD rfl _ _ rfl x.d z32 rfl rfl HLX.out z32_len true HQ.out ?_ | refine wpl_eqD rfl _ _ rfl x.d z32 rfl rfl HLX.out z32_len true HQ.out ?_ | refine wpl_loadR rfl _ rfl w.heap.size 0 rfl x HLX.out HX.out.all ?_)
            refine (HK.out h32 v HB.out).mono ?_
            rintro e w1 ⟨rfl, hb1⟩
            have HB1 := Hid.mk (below_go HB.out hb1)
            clear hb1
            go_wp2_with fail
            go_ret
            refine ⟨congrArg (fun b => Ending.returned (Value.bool b)) ?_, HB1.out⟩
            rw [← HRES.out, Bool.eq_iff_iff]
            first | (simp [h1, HZ.out, h32]; done) | (simp [h1, HZ.out, h32]; omega)
          · have hi32 : ¬ (x.n : Int) < 32 := by omega
            go_wp2_with (first | refine wpl_loadD rfl _ rfl w.heap.size 1 rfl x.d HLX.out HX.out.digest ?_ | refine wpl_neD rfl _ _ rfl x.d z32 rfl rfl HLX.out z32_len true HQ.out ?_ | refine wpl_eqD rfl _ _ rfl x.d z32 rfl rfl HLX.out z32_len true HQ.out ?_ | refine wpl_loadR rfl _ rfl w.heap.size 0 rfl x HLX.out HX.out.all ?_)
            go_ret
            refine ⟨congrArg (fun b => Ending.returned (Value.bool b)) ?_, HB.out⟩
            rw [← HRES.out, Bool.eq_iff_iff]
            first | (simp [h1, HZ.out, h32]; done) | (simp [h1, HZ.out, h32]; omega)
        · have HQ := Hid.mk (show (x.d == z32) = false from by simp [hz])
          have HZ := Hid.mk hz
          clear hz
          go_wp2_with (first | refine wpl_loadD rfl _ rfl w.heap.size 1 rfl x.d HLX.out HX.out.digest ?_ | refine wpl_neD rfl _ _ rfl x.d z32 rfl rfl HLX.out z32_len false HQ.out ?_ | refine wpl_eqD rfl _ _ rfl x.d z32 rfl rfl HLX.out z32_len false HQ.out ?_ | refine wpl_loadR rfl _ rfl w.heap.size 0 rfl x HLX.out HX.out.all ?_)
          go_ret
          refine ⟨congrArg (fun b => Ending.returned (Value.bool b)) ?_, HB.out⟩
          rw [← HRES.out, Bool.eq_iff_iff]
          first | (simp [h1, HZ.out]; done) | (simp [h1, HZ.out]; omega)
      · go_wp2_with fail
        go_ret
        refine ⟨congrArg (fun b => Ending.returned (Value.bool b)) ?_, HB.out⟩
        rw [← HRES.out, Bool.eq_iff_iff]
        first | (simp [h0, h2, h1]; done) | (simp [h0, h2, h1]; omega)
end Go.Proofs.Ytamibjgahcpkcaa
/- What refOf answers. -/
namespace Go.Proofs.Ytamibjgahcpkcaa
open Go.RowKit
set_option linter.unusedVariables false
set_option maxRecDepth 100000
theorem results_ref {fn : Func} {p u : Tmp} (h : fn.results = #[.cell p 26, .tmp u]) (tmps : Array Value) (w : World) (g : Nat) (y : RV) (hl : y.d.length = 32) (hp : tmps.getD p undef = .pointer (some ⟨g, 0, none⟩)) (hg : w.heap[g]? = some (.cells y.cells.toArray 26)) :
    (results fn tmps).run Try.prog w = .ok (.tuple #[.agg y.cells.toArray, tmps.getD u undef]) w := by
  have hp' : tmps[p]?.getD undef = .pointer (some ⟨g, 0, none⟩) := by simpa using hp
  have hr := run_loadVar_row (P := Try.prog) w g 26 26 y.cells.toArray (0, 0) _ hg Try.underlying26 rfl (by rw [infoR, List.size_toArray, RV.len hl])
  simp [results, h, hp', asAddr, hr]
/-- What refOf tells. -/
def RPost (w : World) (o : Option PR) : Ending → World → Prop := fun e w' => Below w.heap.size w w' ∧
  match o with
  | none => ∃ y : RV, y.d.length = 32 ∧ e = .returned (.tuple #[.agg y.cells.toArray, .bool false])
  | some r => ∃ y : RV, e = .returned (.tuple #[.agg y.cells.toArray, .bool true]) ∧ RefAt (Own w.heap.size w') w' y r
theorem agk_nil (K : Nat → Prop) (w : World) : AgK K w none 0 0 [] := ⟨⟨.inl ⟨rfl, rfl⟩, fun _ => ⟨rfl, rfl⟩, rfl, fun x hx => by cases hx⟩, by omega, fun g off e => by cases e⟩
theorem isB_z32 : isB z32 := fun x hx => by rw [z32, List.mem_replicate] at hx; omega
theorem refAt_zero (K : Nat → Prop) (w : World) : RefAt K w rz r0 := ⟨rfl, rfl, isB_z32, rfl, agk_nil K w⟩
theorem rz_size {y : RV} (h : y.d.length = 32) : (rz.cells.toArray : Array Value).size = y.cells.toArray.size := by rw [List.size_toArray, List.size_toArray, RV.len h]; rfl
theorem infoR' {y : RV} (h : y.d.length = 32) : (Try.prog.info? 26).map (·.size) = some y.cells.toArray.size := by rw [infoR, List.size_toArray, RV.len h]
/-- The item's box and the result's, while refOf goes on. -/
structure Rr (w v : World) (x : V) : Prop where
  row : v.heap[w.heap.size + 1]? = some (.cells rz.cells.toArray 26)
  bx : B1 w.heap.size v x
  bel : Below w.heap.size w v
  sz : w.heap.size + 2 ≤ v.heap.size
theorem Rr.go {w v v' : World} {x : V} (h : Rr w v x) (hb : Below v.heap.size v v') : Rr w v' x := ⟨Below.row hb h.row, h.bx.go hb, below_go h.bel hb, Nat.le_trans h.sz hb.size⟩
theorem rr_new (w : World) (x : V) : Rr w ((w.alloc (.cells #[.bool x.l, .slice x.ba x.bn x.bc, .slice x.ia x.m x.ic] 49)).alloc (.cells rz.cells.toArray 26)) x := by
  have s1 : (w.alloc (.cells #[.bool x.l, .slice x.ba x.bn x.bc, .slice x.ia x.m x.ic] 49)).heap.size = w.heap.size + 1 := by simp
  refine ⟨?_, (b1_new w x).alloc _, below_go (below_new w _) (below_new _ _), by simp⟩
  have := heap_alloc_new (w.alloc (.cells #[.bool x.l, .slice x.ba x.bn x.bc, .slice x.ia x.m x.ic] 49)) (.cells rz.cells.toArray 26)
  rwa [s1] at this
theorem Keep.setRow {base base' g : Nat} {v : World} {C : Array Value} (hg : g < base) (hb : base' ≤ base) : Keep (Own base v) (Own base' (v.setRow g C)) v (v.setRow g C) := fun k hK hk => by
  have e : (v.setRow g C).heap[k]? = v.heap[k]? := setRow_other _ _ _ _ (by have := hK.1; omega)
  exact ⟨e, Nat.le_trans hb hK.1, fun o => (World.frozen?_of_block (w := v) e).trans (hK.2 o)⟩
theorem copy_dig {w : World} {N sc : Nat} {ad : Addr} {bs : List Int} (hN : w.heap[N]? = some (.cells (RV.cells ⟨2, z32, none, 0, 0⟩).toArray 26)) (hl : bs.length = 32) (hsrc : ∀ j v, (bs.map (Value.int .u8))[j]? = some v → w.cell? (ad.add j) = some v) (ty : TypeId) :
    (Builtin.copy_ #[22, 22] ty #[.slice (some ⟨N, 1, none⟩) 32 32, .slice (some ad) 32 sc]).run Try.prog w = .ok (.int .i64 32) (w.setRow N (RV.cells ⟨2, bs, none, 0, 0⟩).toArray) := by
  have h := run_copy_row Try.prog w 22 22 ty 5 N 1 32 32 ad 32 sc (RV.cells ⟨2, z32, none, 0, 0⟩).toArray 26 (bs.map (Value.int .u8)) Try.underlying22 (by kernel_rfl) hN (by rw [List.length_map, hl]; rfl) hsrc (by rw [List.length_map, hl]; decide) (B8_one2 _)
  rw [h, List.length_map, hl]
  rfl
set_option maxHeartbeats 4000000 in
theorem refOf_any (t : T) (x : V) (w : World) (h : Lies w t x) :
    Calls Try.prog 80 #[.agg #[.bool x.l, .slice x.ba x.bn x.bc, .slice x.ia x.m x.ic]] w (RPost w (refOfP t)) := by
  obtain ⟨l, bs, its⟩ := t
  obtain ⟨hl, hag, -⟩ := lies_eq.1 h
  have hbn : x.bn ≤ 140737488351232 := (lies_eq.1 h).2.2.2.2.2.1.1
  subst hl
  have HX := Hid.mk h
  have HAG := Hid.mk hag
  obtain ⟨res, hres⟩ : ∃ res, refOfP (.mk x.l bs its) = res := ⟨_, rfl⟩
  rw [hres]
  have hres : (if x.l = true then (if (mP (.mk x.l bs its)).2 = 0 then some (⟨1, z32, enc (.mk x.l bs its)⟩ : PR) else none) else if bs.length = 0 then some r0 else if bs.length = 32 then some ⟨2, bs, []⟩ else none) = res := hres
  rw [hag.l] at hres
  have HRES := Hid.mk hres
  have HRR := Hid.mk (rr_new w x)
  clear h hag hres
  go_enter Try.func80, Try.ntmps80
  go_upto_region 1 with fail
  refine gen_w (p := fun v => Code.wp _ _ _ _ v) (q := fun v => Rr w v x) HRR.out ?_
  clear HRR
  intro v RR
  have c0 := RR.bx.c0
  have c1 := RR.bx.c1
  have c2 := RR.bx.c2
  have HRR := Hid.mk RR
  clear RR
  by_cases hxl : x.l = true
  · have HE := Hid.mk (encode_own (.mk x.l bs its) x v (lies_mono HRR.out.bel _ x HX.out))
    have HXL := Hid.mk hxl
    obtain ⟨xl, exl⟩ : ∃ xl, x.l = xl := ⟨_, rfl⟩
    have hres := HRES.out
    rw [if_pos hxl] at hres
    rw [hxl] at c0
    by_cases hm : (mP (.mk x.l bs its)).2 = 0
    · rw [if_pos hm] at hres
      subst hres
      have hp := encP_yes hm
      have hle := enc_le hm
      rw [hp] at HE
      have HHLE := Hid.mk hle
      rw [show (((enc (T.mk x.l bs its), 0) : List Int × Nat).2 : Int) = 0 from rfl] at HE
      rw [show ((enc (T.mk x.l bs its), 0) : List Int × Nat).1 = enc (T.mk x.l bs its) from rfl] at HE
      generalize hen : enc (T.mk x.l bs its) = en at HE HHLE ⊢
      have hEx := HE.out
      rw [hxl] at hEx
      have HE2 := Hid.mk hEx
      have HEN := Hid.mk hen
      clear hp hle hm hen HE HRES hEx exl
      go_wp2_with fail
      refine HE2.out.mono ?_
      rintro e w1 ⟨⟨a, n, c, rfl, hag, hfr⟩, hb⟩
      have R1 := HRR.out.go hb
      have HAGK := Hid.mk (show AgK (Own (w.heap.size + 2) w1) w1 a n c en from ⟨hag, by have := hag.l; have := HHLE.out; omega, fun g off e h0 => by
        have := hfr g off e h0
        exact ⟨by have := HRR.out.sz; omega, this.2⟩⟩)
      have HR1 := Hid.mk R1
      have hl32 : z32.length = 32 := rfl
      clear hag hfr hb R1
      go_wp2_with (first | refine wpList_store_row rfl 26 _ _ rfl _ (RV.cells ⟨1, z32, a, n, c⟩).toArray rfl rfl 26 _ HR1.out.row (infoR' rfl) (rz_size rfl) (all_oneCell_toArray (RV.one _)) ?_)
      refine bodyPost_ret (results_ref Try.results80 _ _ (w.heap.size + 1) ⟨1, z32, a, n, c⟩ rfl rfl (setRow_heap _ _ _ _ _ _ HR1.out.row)) rfl ?_
      exact ⟨Below.setRow HR1.out.bel (by omega) _, ⟨1, z32, a, n, c⟩, rfl, rfl, rfl, isB_z32, rfl, by rw [HEN.out]; exact HAGK.out.go (Keep.setRow (base := w.heap.size + 2) (base' := w.heap.size) (g := w.heap.size + 1) (by omega) (by omega))⟩
    · rw [if_neg hm] at hres
      subst hres
      have hp := encP_no hm
      rw [hp] at HE
      obtain ⟨er, her⟩ : ∃ er, (mP (.mk x.l bs its)).2 = er := ⟨_, rfl⟩
      rw [her] at HE hm
      have hee : ((er : Int) == 0) = false := by rw [beq_eq_false_iff_ne]; omega
      have hEx := HE.out
      rw [hxl] at hEx
      have HE2 := Hid.mk hEx
      clear hp hm her HE HRES hEx exl
      go_wp2_with fail
      refine HE2.out.mono ?_
      rintro e w1 ⟨⟨a, n, c, rfl, hag, hfr⟩, hb⟩
      have HR1 := Hid.mk (HRR.out.go hb)
      clear hag hfr hb
      go_wp2_with (first | refine wpList_store_row rfl 26 _ _ rfl _ (RV.cells ⟨1, z32, a, n, c⟩).toArray rfl rfl 26 _ HR1.out.row (infoR' rfl) (rz_size rfl) (all_oneCell_toArray (RV.one _)) ?_)
      refine bodyPost_ret (results_ref Try.results80 _ _ (w.heap.size + 1) ⟨1, z32, a, n, c⟩ rfl rfl (setRow_heap _ _ _ _ _ _ HR1.out.row)) rfl ?_
      exact ⟨Below.setRow HR1.out.bel (by omega) _, ⟨1, z32, a, n, c⟩, rfl, rfl⟩
  · have hres := HRES.out
    rw [if_neg hxl] at hres
    have hxf : x.l = false := by simpa using hxl
    rw [hxf] at c0
    clear hxf hxl HRES HX
    by_cases h0 : x.bn = 0
    · rw [if_pos h0] at hres
      subst hres
      go_wp2_with (first | refine wpList_store_row rfl 26 _ _ rfl _ rz.cells.toArray rfl rfl 26 _ HRR.out.row (infoR' rfl) (rz_size rfl) (all_oneCell_toArray (RV.one _)) ?_)
      refine bodyPost_ret (results_ref Try.results80 _ _ (w.heap.size + 1) rz rfl rfl (setRow_heap _ _ _ _ _ _ HRR.out.row)) rfl ?_
      exact ⟨Below.setRow HRR.out.bel (by omega) _, rz, rfl, refAt_zero _ _⟩
    · rw [if_neg h0] at hres
      by_cases h32 : x.bn = 32
      · rw [if_pos h32] at hres
        subst hres
        have hz := HAG.out
        rw [h32] at hz c1
        obtain ⟨g, off, hba, _, _, hcs⟩ := ag_head hz (by omega)
        rw [hba] at c1
        have HBL := Hid.mk hz.l
        have HBB := Hid.mk hz.b
        have HCS := Hid.mk (show ∀ u, Below w.heap.size w u → ∀ j z, (bs.map (Value.int .u8))[j]? = some z → u.cell? ((⟨g, off, none⟩ : Addr).add j) = some z from fun u hu j z hz' => by
          have hj : j < 32 := by have := (List.getElem?_eq_some_iff.1 hz').1; rw [List.length_map, HBL.out] at this; exact this
          rw [addr_add, below_cell hu (hcs j hj), ← hz', List.getElem?_map, List.getD, List.getElem?_eq_getElem (by rw [HBL.out]; exact hj)]
          rfl)
        have HRB := Hid.mk hba
        have HR32 := Hid.mk h32
        clear hz hcs h0 h32 hba
        go_upto_region 9 with (first | refine wpList_store_row rfl 26 _ _ rfl _ (RV.cells ⟨2, z32, none, 0, 0⟩).toArray rfl rfl 26 _ (heap_alloc_new _ _) (infoR' rfl) (rz_size rfl) (all_oneCell_toArray (RV.one _)) ?_)
        refine gen_w (p := fun v => Code.wp _ _ _ _ v) (q := fun u => RBx v.heap.size u ⟨2, z32, none, 0, 0⟩ ∧ Rr w u x) ⟨⟨setRow_heap _ _ _ _ _ _ (heap_alloc_new _ _), rfl⟩, ?_⟩ ?_
        · refine HRR.out.go (Below.setRow (below_new v _) (Nat.le_refl _) _)
        rintro u ⟨B2, R2⟩
        have d1 := R2.bx.c1
        rw [show x.ba = some ⟨g, off, none⟩ from HRB.out] at d1
        rw [HR32.out] at d1
        have HCP := Hid.mk (copy_dig (w := u.drew) (N := v.heap.size) (sc := x.bc) B2.row HBL.out (HCS.out _ (R2.bel.drew)))
        have HB2 := Hid.mk B2
        have HR2 := Hid.mk R2
        have HVS := Hid.mk HRR.out.sz
        clear B2 R2 c0 c1 c2
        go_frame
        go_cut [] (fun u2 => RBx v.heap.size u2 ⟨2, bs, none, 0, 0⟩ ∧ u2.heap[w.heap.size + 1]? = some (.cells rz.cells.toArray 26) ∧ Below w.heap.size w u2)
        case first =>
          go_region_law (refine step_copy rfl _ _ 22 22 rfl _ _ rfl rfl (HCP.out _) ?_)
          all_goals
            go_wp2_with fail
            go_meet
            exact ⟨⟨setRow_heap _ _ _ _ _ _ HB2.out.row, HBL.out⟩, (setRow_other _ _ _ _ (by have := HVS.out; omega)).trans HR2.out.row, Below.setRow HR2.out.bel.drew (by have := HVS.out; omega) _⟩
        case rest =>
          obtain ⟨B3, r3, b3⟩ := hcut
          have HB3 := Hid.mk B3
          have HR3 := Hid.mk r3
          have HL3 := Hid.mk b3
          clear B3 r3 b3
          go_wp2_with (first | refine wpl_loadR rfl _ rfl v.heap.size 0 rfl ⟨2, bs, none, 0, 0⟩ HBL.out HB3.out.all ?_ | refine wpList_store_row rfl 26 _ _ rfl _ (RV.cells ⟨2, bs, none, 0, 0⟩).toArray rfl rfl 26 _ HR3.out (infoR' HBL.out) (rz_size HBL.out) (all_oneCell_toArray (RV.one _)) ?_)
          refine bodyPost_ret (results_ref Try.results80 _ _ (w.heap.size + 1) ⟨2, bs, none, 0, 0⟩ HBL.out rfl (setRow_heap _ _ _ _ _ _ HR3.out)) rfl ?_
          exact ⟨Below.setRow HL3.out (by omega) _, ⟨2, bs, none, 0, 0⟩, rfl, rfl, rfl, HBB.out, HBL.out, agk_nil _ _⟩
      · rw [if_neg h32] at hres
        subst hres
        go_wp2_with (first | refine wpList_store_row rfl 26 _ _ rfl _ rz.cells.toArray rfl rfl 26 _ HRR.out.row (infoR' rfl) (rz_size rfl) (all_oneCell_toArray (RV.one _)) ?_)
        refine bodyPost_ret (results_ref Try.results80 _ _ (w.heap.size + 1) rz rfl rfl (setRow_heap _ _ _ _ _ _ HRR.out.row)) rfl ?_
        exact ⟨Below.setRow HRR.out.bel (by omega) _, rz, rfl, rfl⟩
end Go.Proofs.Ytamibjgahcpkcaa
/- More steps through a drawn region: a store, a build, loads of whole references, nodes and items. -/
namespace Go.Proofs.Ytamibjgahcpkcaa
open Go.RowKit
set_option linter.unusedVariables false
set_option maxRecDepth 100000
section
variable {md : Region.Mode} {ops : Array Oper} {Q : Exit → Act → World → Prop} {S : World → Prop} {fuel : Nat} {listed : Array Bool} {a : Act} {w : World}
/-- An operation that hands nothing on (a store). -/
theorem rd_run0 (i : Nat) {rs : List Nat} {w' : World} {o : Oper} (ho : ops[i]? = some o) (hd : o.dst = none) (hg : Region.wanted o (yielded ops a.tmps) = true) (hrun : (execOp a.eval o).run Try.prog w = .ok .skip w') (hS : S w')
    (h : wpAnyH Try.prog md ops Q S fuel (listed.setIfInBounds i true) a w') (hs : AllReadyH Try.prog md ops Q S fuel listed a w rs) : AllReadyH Try.prog md ops Q S fuel listed a w (i :: rs) :=
  AllReadyH.cons ho (fun K hK => by
    rw [if_pos hg]
    unfold Oper.wp
    rw [hrun, Oper.upon_skip]
    exact hK _ _ hS (fun _ => by rw [hd]; exact h)) hs
end
section
variable {ops : Array Oper} {Q : Exit → Act → World → Prop} {a : Act} {w w' : World} {rest : List Oper} {o : Oper}
theorem wl_region {id : Nat} (l : List Oper) (hl : ∀ j, l[j]? = ops[0 + j]?) (hn : ops.size = l.length) (h : wpList Try.prog ops Q l a w) : (Code.region id ops false).wp Try.prog Q a w := by
  refine wp_region ?_
  rw [hn, List.range_eq_range', wpOps_eq_wpList l 0 hl]
  exact h
theorem wl_run (d : Nat) (v : Value) (hd : o.dst = some d) (hw : Region.wanted o (yielded ops a.tmps) = true) (hrun : (execOp a.eval o).run Try.prog w = .ok (.value v) w') (h : wpList Try.prog ops Q rest (a.put (some d) v) w') : wpList Try.prog ops Q (o :: rest) a w :=
  wants hw fun K hK => by
    unfold Oper.wp
    rw [hrun, Oper.upon_value, hd]
    exact hK _ _ h
theorem wl_pure (d : Nat) (v : Value) (hd : o.dst = some d) (hw : Region.wanted o (yielded ops a.tmps) = true) (hrun : (execOp a.eval o).run Try.prog w = .ok (.value v) w) (h : wpList Try.prog ops Q rest (a.put (some d) v) w) : wpList Try.prog ops Q (o :: rest) a w := wl_run d v hd hw hrun h
theorem wl_skip (hd : o.dst = none) (hw : Region.wanted o (yielded ops a.tmps) = true) (hrun : (execOp a.eval o).run Try.prog w = .ok .skip w') (h : wpList Try.prog ops Q rest a w') : wpList Try.prog ops Q (o :: rest) a w :=
  wants hw fun K hK => by
    unfold Oper.wp
    rw [hrun, Oper.upon_skip, hd]
    exact hK _ _ h
theorem wl_call (d : Nat) (hd : o.dst = some d) (hw : Region.wanted o (yielded ops a.tmps) = true) (f : FuncId) (args : Array Value) (hrun : (execOp a.eval o).run Try.prog w = .ok (.enter f args) w)
    {R : Value → World → Prop} (hc : Calls Try.prog f args w fun e w' => ∃ v, e = .returned v ∧ R v w') (h : ∀ v w', R v w' → wpList Try.prog ops Q rest (a.put (some d) v) w') : wpList Try.prog ops Q (o :: rest) a w :=
  wants hw fun K hK => by
    unfold Oper.wp
    rw [hrun, Oper.upon_enter]
    refine hc.mono ?_
    rintro e w' ⟨v, rfl, hR⟩
    rw [hd]
    exact hK _ _ (h v w' hR)
end
section
variable {a : Act} {w : World}
theorem rd_build (t : TypeId) (parts : Array (Nat × Operand)) {o : Oper} (ho : o.op = .build t parts) (vals : List (Nat × Value)) (hv : (parts.map fun (i, x) => (i, a.eval x)).toList = vals) (cells : Array Value) (hf : Try.prog.built t vals = some cells) :
    (execOp a.eval o).run Try.prog w = .ok (.value (.agg cells)) w := by
  subst hv
  have hr := run_build w t (parts.map fun (i, x) => (i, a.eval x)) cells (P := Try.prog) hf
  unfold execOp
  rw [ho]
  simp only [Sem.run_bind, hr, Result.andThen_ok, Sem.run_pure]
theorem rd_store (ty : TypeId) (x y : Operand) {o : Oper} (ho : o.op = .store ty x y) (g : Nat) (cells : Array Value) (hx : a.eval x = .pointer (some ⟨g, 0, none⟩)) (hy : a.eval y = .agg cells) (t : TypeId) (old : Array Value)
    (hg : w.heap[g]? = some (.cells old t (0, 0))) (hi : (Try.prog.info? ty).map (·.size) = some cells.size) (hold : old.size = cells.size) (h1 : cells.all (·.oneCell') = true) :
    (execOp a.eval o).run Try.prog w = .ok .skip (w.setRow g cells) := by
  unfold execOp
  rw [ho]
  simp only [hx, hy, Instr.storeAt, Instr.sureAddr, Sem.run_bind, Sem.run_pure, Result.andThen_ok, run_storeVar_row w g t ty old cells hg hi hold h1]
theorem rd_loadRow (ty : TypeId) (x : Operand) {o : Oper} (ho : o.op = .load ty x) (b off : Nat) (hx : a.eval x = .pointer (some ⟨b, off, none⟩)) (cs : List Value) (d : TypeDesc) (hc : w.rangeAt b off cs) (hu : Try.prog.underlying ty = some d) (hd : d.isRow = true) (hi : (Try.prog.info? ty).map (·.size) = some cs.length) :
    (execOp a.eval o).run Try.prog w = .ok (.value (.agg cs.toArray)) w := by
  unfold execOp
  simp only [ho, hx, Instr.loadAt, Instr.sureAddr, Sem.run_bind, Sem.run_pure, Result.andThen_ok, run_loadVar_mid w b off ty cs d hc hu hd hi]
theorem rd_loadNn {x : Operand} {o : Oper} (ho : o.op = .load 29 x) {b : Nat} (hx : a.eval x = .pointer (some ⟨b, 0, none⟩)) {y : NV} (hc : NBx b w y) : (execOp a.eval o).run Try.prog w = .ok (.value (.agg y.cells.toArray)) w :=
  rd_loadRow 29 x ho b 0 hx y.cells _ hc.all Try.underlying29 rfl (by rw [infoN, NV.len hc.l])
theorem rd_loadRr {x : Operand} {o : Oper} (ho : o.op = .load 26 x) {b off : Nat} (hx : a.eval x = .pointer (some ⟨b, off, none⟩)) {y : RV} (hl : y.d.length = 32) (hc : w.rangeAt b off y.cells) : (execOp a.eval o).run Try.prog w = .ok (.value (.agg y.cells.toArray)) w :=
  rd_loadRow 26 x ho b off hx y.cells _ hc Try.underlying26 rfl (by rw [infoR, RV.len hl])
end
end Go.Proofs.Ytamibjgahcpkcaa

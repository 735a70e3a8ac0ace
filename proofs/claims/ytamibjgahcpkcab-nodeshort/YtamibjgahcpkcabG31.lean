/- What alive answers. -/
import Derived.Test.YtamibjgahcpkcabG30
import Derived.Test.YtamibjgahcpkcabG19
import Derived.Test.YtamibjgahcpkcabG25
namespace Go.Proofs.Ytamibjgahcpkcab
open Go.RowKit
set_option linter.unusedVariables false
set_option maxRecDepth 100000
def nA : PN := ⟨1, [1, 2], [5], r0, []⟩
def nB : PN := ⟨1, [], [5], r0, []⟩
theorem nA_right : NR nA = true := by decide +kernel
theorem nB_right : NR nB = true := by decide +kernel
theorem nA_enc : NE nA = [196, 130, 32, 18, 5] := by decide +kernel
theorem nB_enc : NE nB = [194, 32, 5] := by decide +kernel
theorem isB_lit {b : List Int} (h : (b.all fun x => decide (0 ≤ x) && decide (x < 256)) = true) : isB b := fun x hx => by
  have := List.all_eq_true.1 h x hx
  simp at this
  exact this
theorem nA_ep : NEP nA = ([196, 130, 32, 18, 5], 0) := by unfold NEP; rw [if_pos nA_right, nA_enc]
theorem okN_nB : okN nB := ⟨isB_lit rfl, isB_lit rfl, ⟨isB_lit rfl, rfl, isB_lit rfl⟩, fun r hr => by cases hr⟩
theorem nB_dec : ND [194, 32, 5] = some nB := by
  have h := NE_isB okN_nB nB_right (by rw [nB_enc]; exact isB_lit rfl)
  rw [nB_enc] at h
  exact h
theorem agk_true {w : World} {a : Option Addr} {n c : Nat} {bs : List Int} (h : Ag w a n c bs) (hn : n ≤ 140737488351232) : AgK (fun _ => True) w a n c bs := ⟨h, hn, fun _ _ _ _ => trivial⟩
set_option maxHeartbeats 4000000 in
theorem alive_any (w : World) : Calls Try.prog 6 #[] w fun e w' => e = .returned (.bool true) ∧ Below w.heap.size w w' := by
  have hw1 : Ag ((w.alloc (.cells #[.int .u8 1, .int .u8 2] 5)).alloc (.cells #[.int .u8 5] 5)) (some ⟨w.heap.size, 0, none⟩) 2 2 [1, 2] :=
    (Ni.row_ag (show Ni.Row w.heap.size (w.alloc (.cells #[.int .u8 1, .int .u8 2] 5)) [1, 2] from heap_alloc_new _ _) rfl (isB_lit rfl) (show (2 : Nat) ≤ 9223372036854775807 by decide)).at (below_new _ _)
  have hw2 : Ag ((w.alloc (.cells #[.int .u8 1, .int .u8 2] 5)).alloc (.cells #[.int .u8 5] 5)) (some ⟨w.heap.size + 1, 0, none⟩) 1 1 [5] := by
    have s1 : (w.alloc (.cells #[.int .u8 1, .int .u8 2] 5)).heap.size = w.heap.size + 1 := by simp
    rw [← s1]
    exact Ni.row_ag (show Ni.Row _ ((w.alloc (.cells #[.int .u8 1, .int .u8 2] 5)).alloc (.cells #[.int .u8 5] 5)) [5] from heap_alloc_new _ _) rfl (isB_lit rfl) (show (1 : Nat) ≤ 9223372036854775807 by decide)
  have hb0 : Below w.heap.size w ((w.alloc (.cells #[.int .u8 1, .int .u8 2] 5)).alloc (.cells #[.int .u8 5] 5)) := below_go (below_new _ _) (below_new _ _)
  have hE := nencode_any (fun _ => True) ⟨1, some ⟨w.heap.size, 0, none⟩, 2, 2, some ⟨w.heap.size + 1, 0, none⟩, 1, 1, rz, none, 0, 0⟩ nA _ ⟨rfl, agk_true hw1 (show (2 : Nat) ≤ 140737488351232 by decide), agk_true hw2 (show (1 : Nat) ≤ 140737488351232 by decide), refAt_zero _ _, ⟨rfl, Nat.le_refl _, Nat.zero_le _, Nat.zero_le _, fun _ => ⟨rfl, rfl⟩⟩, kids_nil _ _ _⟩
  rw [nA_ep] at hE
  have HE := Hid.mk hE
  have HB0 := Hid.mk hb0
  clear hw1 hw2 hb0 hE
  go_enter Try.func6, Try.ntmps6
  go_wp2_with fail
  refine HE.out.mono ?_
  rintro e w1 ⟨⟨a, m, c, rfl, hag, -⟩, hb1⟩
  have hm : m = 5 := hag.l.symm
  subst hm
  have HA := Hid.mk hag
  have HB1 := Hid.mk (below_go HB0.out hb1)
  have HD := Hid.mk (ndecode_any [194, 32, 5] (some ⟨w1.heap.size, 0, none⟩) 3 3 (w1.alloc (.cells #[.int .u8 194, .int .u8 32, .int .u8 5] 5)) (Ni.row_ag (show Ni.Row w1.heap.size (w1.alloc (.cells #[.int .u8 194, .int .u8 32, .int .u8 5] 5)) [194, 32, 5] from heap_alloc_new _ _) rfl (isB_lit rfl) (show (3 : Nat) ≤ 9223372036854775807 by decide)) (show (3 : Nat) ≤ 140737488351232 by decide))
  rw [nB_dec] at HD
  clear hag hb1 HE HB0
  go_wp2_with fail
  refine HD.out.mono ?_
  rintro e w2 ⟨hb2, y, rfl, hy⟩
  have HL := Hid.mk hy.c.len
  have HY := Hid.mk hy
  have HB2 := Hid.mk (below_go (below_go HB1.out (below_new _ _)) hb2)
  have HA2 := Hid.mk (HA.out.at (below_go (below_new _ _) hb2))
  clear hy hb2 HD
  go_upto_region 3 with (first | refine wpList_store_row rfl 29 _ _ rfl _ y.cells.toArray rfl rfl 29 _ (heap_alloc_new _ _) (infoN' HL.out) (nz_size HL.out) (all_oneCell_toArray (NV.one _)) ?_)
  refine gen_w (p := fun v => Code.wp _ _ _ _ v) (q := fun v => NBx w2.heap.size v y ∧ Below w2.heap.size w2 v) ⟨⟨setRow_heap _ _ _ _ _ _ (heap_alloc_new _ _), HL.out⟩, Below.setRow (below_new w2 _) (Nat.le_refl _) _⟩ ?_
  rintro v3 ⟨B3, b3⟩
  have c0 := B3.c0
  have c1 := B3.c1
  have c2 := B3.c2
  have hk : y.k = 1 := HY.out.k
  have hp : y.pn = 0 := HY.out.p.l.symm
  have hv : y.vn = 1 := HY.out.v.l.symm
  have k1 := conv_any (HA2.out.at b3).i
  have k2 := conv_any (HY.out.v.1.at b3).i
  have e1 : strOfNums [196, 130, 32, 18, 5] = ⟨#[196, 130, 32, 18, 5]⟩ := by rfl
  have e2 : strOfNums nB.v = ⟨#[5]⟩ := by rfl
  rw [e1] at k1
  rw [e2, hv] at k2
  rw [hk] at c0
  rw [hp] at c1
  rw [hv] at c2
  have HB3 := Hid.mk (below_go HB2.out b3)
  clear B3 b3 hk hp hv e1 e2
  go_wp2_with fail
  go_ret
  first | exact ⟨rfl, HB3.out⟩ | (refine ⟨congrArg (fun b => Ending.returned (Value.bool b)) ?_, HB3.out⟩; decide +kernel)
end Go.Proofs.Ytamibjgahcpkcab
/- What the document's SameRef answers: are two references the same? -/
namespace Go.Proofs.Ytamibjgahcpkcab
open Go.RowKit
set_option linter.unusedVariables false
set_option maxRecDepth 100000
def reqP (r s : PR) : Bool := decide (r.k = s.k) && decide (r.d = s.d) && decide (r.i = s.i)
theorem reqP_iff {r s : PR} : reqP r s = true ↔ r = s := by
  constructor
  · intro h
    simp [reqP] at h
    exact PR.ext h.1.1 h.1.2 h.2
  · rintro rfl
    simp [reqP]
theorem rbx2_new (w : World) (x y : RV) (hx : x.d.length = 32) (hy : y.d.length = 32) : RBx w.heap.size ((w.alloc (.cells x.cells.toArray 26)).alloc (.cells y.cells.toArray 26)) x ∧ RBx (w.heap.size + 1) ((w.alloc (.cells x.cells.toArray 26)).alloc (.cells y.cells.toArray 26)) y ∧ Below w.heap.size w ((w.alloc (.cells x.cells.toArray 26)).alloc (.cells y.cells.toArray 26)) := by
  have s1 : (w.alloc (.cells x.cells.toArray 26)).heap.size = w.heap.size + 1 := by simp
  have h2 := rbx_new (w.alloc (.cells x.cells.toArray 26)) y hy
  rw [s1] at h2
  exact ⟨(rbx_new w x hx).go (below_new _ _), h2, below_go (below_new w _) (below_new _ _)⟩
set_option maxHeartbeats 4000000 in
theorem sameRef_any (K L : Nat → Prop) (x y : RV) (r s : PR) (w : World) (hx : RefAt K w x r) (hy : RefAt L w y s) :
    Calls Try.prog 9 #[.agg x.cells.toArray, .agg y.cells.toArray] w fun e w' => e = .returned (.bool (reqP r s)) ∧ Below w.heap.size w w' := by
  have HBX := Hid.mk (rbx2_new w x y hx.len hy.len)
  have HLX := Hid.mk hx.len
  have HLY := Hid.mk hy.len
  have HX := Hid.mk hx
  have HY := Hid.mk hy
  obtain ⟨res, hres⟩ : ∃ res, reqP r s = res := ⟨_, rfl⟩
  rw [hres]
  unfold reqP at hres
  rw [← hx.1, ← hy.1, ← hx.2.1, ← hy.2.1] at hres
  have HRES := Hid.mk hres
  clear hx hy hres
  go_enter Try.func9, Try.ntmps9
  go_upto_region 1 with fail
  refine gen_w (p := fun v => Code.wp _ _ _ _ v) (q := fun v => RBx w.heap.size v x ∧ RBx (w.heap.size + 1) v y ∧ Below w.heap.size w v) HBX.out ?_
  clear HBX
  rintro v ⟨X0, Y0, hb⟩
  have c0 := X0.c0
  have c1 := X0.c33
  have d0 := Y0.c0
  have d1 := Y0.c33
  have k1 := conv_any (HX.out.2.2.2.2.1.at hb).i
  have k2 := conv_any (HY.out.2.2.2.2.1.at hb).i
  have HS := Hid.mk (Ni.str_beq HX.out.2.2.2.2.1.b HY.out.2.2.2.2.1.b)
  generalize strOfNums r.i = s1 at k1 HS
  generalize strOfNums s.i = s2 at k2 HS
  have HX0 := Hid.mk X0
  have HY0 := Hid.mk Y0
  have HB := Hid.mk hb
  clear X0 Y0 hb
  by_cases hk : x.k = y.k
  · have hkb : (x.k == y.k) = true := by simp [hk]
    have HK := Hid.mk hk
    clear hk
    by_cases hd : x.d = y.d
    · have HQ := Hid.mk (show (x.d == y.d) = true from by simp [hd])
      have HD := Hid.mk hd
      clear hd
      go_wp2_with (first | refine wpl_loadD rfl _ rfl w.heap.size 1 rfl x.d HLX.out HX0.out.digest ?_ | refine wpl_loadD rfl _ rfl (w.heap.size + 1) 1 rfl y.d HLY.out HY0.out.digest ?_ | refine wpl_eqD rfl _ _ rfl x.d y.d rfl rfl HLX.out HLY.out true HQ.out ?_)
      go_ret
      refine ⟨congrArg (fun b => Ending.returned (Value.bool b)) ?_, HB.out⟩
      rw [← HRES.out, HK.out, HD.out]
      simp
      exact HS.out
    · have HQ := Hid.mk (show (x.d == y.d) = false from by simp [hd])
      have HD := Hid.mk hd
      clear hd
      go_wp2_with (first | refine wpl_loadD rfl _ rfl w.heap.size 1 rfl x.d HLX.out HX0.out.digest ?_ | refine wpl_loadD rfl _ rfl (w.heap.size + 1) 1 rfl y.d HLY.out HY0.out.digest ?_ | refine wpl_eqD rfl _ _ rfl x.d y.d rfl rfl HLX.out HLY.out false HQ.out ?_)
      go_ret
      refine ⟨congrArg (fun b => Ending.returned (Value.bool b)) ?_, HB.out⟩
      rw [← HRES.out]
      simp [HD.out]
  · have hkb : (x.k == y.k) = false := by simp [hk]
    have HK := Hid.mk hk
    clear hk
    go_wp2_with fail
    go_ret
    refine ⟨congrArg (fun b => Ending.returned (Value.bool b)) ?_, HB.out⟩
    rw [← HRES.out]
    simp [HK.out]
end Go.Proofs.Ytamibjgahcpkcab

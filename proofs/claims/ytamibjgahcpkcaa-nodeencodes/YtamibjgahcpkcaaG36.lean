/- What alive answers. -/
import Derived.Test.YtamibjgahcpkcaaG20
import Derived.Test.YtamibjgahcpkcaaG13
import Derived.Test.YtamibjgahcpkcaaG35
import Derived.Test.YtamibjgahcpkcaaG26
namespace Go.Proofs.Ytamibjgahcpkcaa
open Go.RowKit
set_option linter.unusedVariables false
set_option maxRecDepth 100000
def nA : PN := ⟨1, [1, 2], [5], r0, []⟩
def nB : PN := ⟨1, [], [5], r0, []⟩
theorem nA_right : NR nA = true := by decide +kernel
theorem nB_right : NR nB = true := by decide +kernel
theorem nA_enc : NE nA = [196, 130, 32, 18, 5] := by decide +kernel
theorem nB_enc : NE nB = [194, 32, 5] := by decide +kernel
theorem isB_lit {b : List Int} (h : (b.all fun x => decide (0 ≤ x) && decide (x < 256)) = true) : isB b := fun x hx => by
  have := List.all_eq_true.1 h x hx
  simp at this
  exact this
theorem nA_ep : NEP nA = ([196, 130, 32, 18, 5], 0) := by unfold NEP; rw [if_pos nA_right, nA_enc]
theorem okN_nB : okN nB := ⟨isB_lit rfl, isB_lit rfl, ⟨isB_lit rfl, rfl, isB_lit rfl⟩, fun r hr => by cases hr⟩
theorem nB_dec : ND [194, 32, 5] = some nB := by
  have h := NE_isB okN_nB nB_right (by rw [nB_enc]; exact isB_lit rfl)
  rw [nB_enc] at h
  exact h
theorem agk_true {w : World} {a : Option Addr} {n c : Nat} {bs : List Int} (h : Ag w a n c bs) (hn : n ≤ 140737488351232) : AgK (fun _ => True) w a n c bs := ⟨h, hn, fun _ _ _ _ => trivial⟩
set_option maxHeartbeats 4000000 in
theorem alive_any (w : World) : Calls Try.prog 11 #[] w fun e w' => e = .returned (.bool true) ∧ Below w.heap.size w w' := by
  have hw1 : Ag ((w.alloc (.cells #[.int .u8 1, .int .u8 2] 5)).alloc (.cells #[.int .u8 5] 5)) (some ⟨w.heap.size, 0, none⟩) 2 2 [1, 2] :=
    (Ni.row_ag (show Ni.Row w.heap.size (w.alloc (.cells #[.int .u8 1, .int .u8 2] 5)) [1, 2] from heap_alloc_new _ _) rfl (isB_lit rfl) (show (2 : Nat) ≤ 9223372036854775807 by decide)).at (below_new _ _)
  have hw2 : Ag ((w.alloc (.cells #[.int .u8 1, .int .u8 2] 5)).alloc (.cells #[.int .u8 5] 5)) (some ⟨w.heap.size + 1, 0, none⟩) 1 1 [5] := by
    have s1 : (w.alloc (.cells #[.int .u8 1, .int .u8 2] 5)).heap.size = w.heap.size + 1 := by simp
    rw [← s1]
    exact Ni.row_ag (show Ni.Row _ ((w.alloc (.cells #[.int .u8 1, .int .u8 2] 5)).alloc (.cells #[.int .u8 5] 5)) [5] from heap_alloc_new _ _) rfl (isB_lit rfl) (show (1 : Nat) ≤ 9223372036854775807 by decide)
  have hb0 : Below w.heap.size w ((w.alloc (.cells #[.int .u8 1, .int .u8 2] 5)).alloc (.cells #[.int .u8 5] 5)) := below_go (below_new _ _) (below_new _ _)
  have hE := nencode_any (fun _ => True) ⟨1, some ⟨w.heap.size, 0, none⟩, 2, 2, some ⟨w.heap.size + 1, 0, none⟩, 1, 1, rz, none, 0, 0⟩ nA _ ⟨rfl, agk_true hw1 (show (2 : Nat) ≤ 140737488351232 by decide), agk_true hw2 (show (1 : Nat) ≤ 140737488351232 by decide), refAt_zero _ _, ⟨rfl, Nat.le_refl _, Nat.zero_le _, Nat.zero_le _, fun _ => ⟨rfl, rfl⟩⟩, kids_nil _ _ _⟩
  rw [nA_ep] at hE
  have HE := Hid.mk hE
  have HB0 := Hid.mk hb0
  clear hw1 hw2 hb0 hE
  go_enter Try.func11, Try.ntmps11
  go_wp2_with fail
  refine HE.out.mono ?_
  rintro e w1 ⟨⟨a, m, c, rfl, hag, -⟩, hb1⟩
  have hm : m = 5 := hag.l.symm
  subst hm
  have HA := Hid.mk hag
  have HB1 := Hid.mk (below_go HB0.out hb1)
  have HD := Hid.mk (ndecode_any [194, 32, 5] (some ⟨w1.heap.size, 0, none⟩) 3 3 (w1.alloc (.cells #[.int .u8 194, .int .u8 32, .int .u8 5] 5)) (Ni.row_ag (show Ni.Row w1.heap.size (w1.alloc (.cells #[.int .u8 194, .int .u8 32, .int .u8 5] 5)) [194, 32, 5] from heap_alloc_new _ _) rfl (isB_lit rfl) (show (3 : Nat) ≤ 9223372036854775807 by decide)) (show (3 : Nat) ≤ 140737488351232 by decide))
  rw [nB_dec] at HD
  clear hag hb1 HE HB0
  go_wp2_with fail
  refine HD.out.mono ?_
  rintro e w2 ⟨hb2, y, rfl, hy⟩
  have HL := Hid.mk hy.c.len
  have HY := Hid.mk hy
  have HB2 := Hid.mk (below_go (below_go HB1.out (below_new _ _)) hb2)
  have HA2 := Hid.mk (HA.out.at (below_go (below_new _ _) hb2))
  clear hy hb2 HD
  go_upto_region 3 with (first | refine wpList_store_row rfl 29 _ _ rfl _ y.cells.toArray rfl rfl 29 _ (heap_alloc_new _ _) (infoN' HL.out) (nz_size HL.out) (all_oneCell_toArray (NV.one _)) ?_)
  refine gen_w (p := fun v => Code.wp _ _ _ _ v) (q := fun v => NBx w2.heap.size v y ∧ Below w2.heap.size w2 v) ⟨⟨setRow_heap _ _ _ _ _ _ (heap_alloc_new _ _), HL.out⟩, Below.setRow (below_new w2 _) (Nat.le_refl _) _⟩ ?_
  rintro v3 ⟨B3, b3⟩
  have c0 := B3.c0
  have c1 := B3.c1
  have c2 := B3.c2
  have hk : y.k = 1 := HY.out.k
  have hp : y.pn = 0 := HY.out.p.l.symm
  have hv : y.vn = 1 := HY.out.v.l.symm
  have k1 := conv_any (HA2.out.at b3).i
  have k2 := conv_any (HY.out.v.1.at b3).i
  have e1 : strOfNums [196, 130, 32, 18, 5] = ⟨#[196, 130, 32, 18, 5]⟩ := by rfl
  have e2 : strOfNums nB.v = ⟨#[5]⟩ := by rfl
  rw [e1] at k1
  rw [e2, hv] at k2
  rw [hk] at c0
  rw [hp] at c1
  rw [hv] at c2
  have HB3 := Hid.mk (below_go HB2.out b3)
  clear B3 b3 hk hp hv e1 e2
  go_wp2_with fail
  go_ret
  first | exact ⟨rfl, HB3.out⟩ | (refine ⟨congrArg (fun b => Ending.returned (Value.bool b)) ?_, HB3.out⟩; decide +kernel)
end Go.Proofs.Ytamibjgahcpkcaa
/- That NodeRights answers true. -/
namespace Go.Proofs.Ytamibjgahcpkcaa
open Go.RowKit
set_option linter.unusedVariables false
set_option maxRecDepth 100000
set_option maxHeartbeats 4000000 in
theorem rights_law (K : Nat → Prop) (x : NV) (n : PN) (w : World) (h : NodeAt K w x n) :
    Calls Try.prog 3 #[.agg x.cells.toArray] w fun e w' => e = .returned (.bool true) ∧ Below w.heap.size w w' := by
  have B := nbx_new w x h.c.len
  have HB := Hid.mk (below_new w (.cells x.cells.toArray 29))
  obtain ⟨q, hq⟩ : ∃ q, NR n = q := ⟨_, rfl⟩
  have HH := Hid.mk h
  have HQ := Hid.mk hq
  clear h hq
  go_enter Try.func3, Try.ntmps3
  go_upto_region 1 with fail
  refine gen_w (p := fun v => Code.wp _ _ _ _ v) (q := fun v => NBx w.heap.size v x ∧ Below w.heap.size w v) ⟨B, HB.out⟩ ?_
  clear B HB
  rintro v ⟨B, hb⟩
  have HB := Hid.mk hb
  have HX := Hid.mk B
  have HCP := Hid.mk (ncopied_any K x n v (HH.out.go (Keep.below hb)))
  clear hb B
  go_wp2_with (first | refine wpl_loadN rfl _ rfl w.heap.size rfl x HX.out ?_)
  refine HCP.out.mono ?_
  rintro e w1 ⟨⟨y, rfl, hy⟩, hb1⟩
  have HX1 := Hid.mk (HX.out.go hb1)
  have HB1 := Hid.mk (below_go HB.out hb1)
  have HL := Hid.mk hy.c.len
  have HY := Hid.mk hy
  clear hb1 hy HX HB HCP
  go_upto_region 2 with (first | refine wpList_store_row rfl 29 _ _ rfl _ y.cells.toArray rfl rfl 29 _ (heap_alloc_new _ _) (infoN' HL.out) (nz_size HL.out) (all_oneCell_toArray (NV.one _)) ?_)
  refine gen_w (p := fun v => Code.wp _ _ _ _ v) (q := fun v => NBx w1.heap.size v y ∧ Below w1.heap.size w1 v) ⟨⟨setRow_heap _ _ _ _ _ _ (heap_alloc_new _ _), HL.out⟩, Below.setRow (below_new w1 _) (Nat.le_refl _) _⟩ ?_
  rintro v2 ⟨B2, b2⟩
  have HX2 := Hid.mk (HX1.out.go b2)
  have HY2 := Hid.mk B2
  have HB2 := Hid.mk (below_go HB1.out b2)
  have HN2 := Hid.mk (HY.out.go (Keep.below b2))
  have HR := Hid.mk (nright_any _ y n v2 HN2.out)
  rw [HQ.out] at HR
  clear B2 b2 HX1 HB1 HY
  go_wp2_with (first | refine wpl_loadN rfl _ rfl w1.heap.size rfl y HY2.out ?_)
  refine HR.out.mono ?_
  rintro e w3 ⟨rfl, hb3⟩
  have HX3 := Hid.mk (HX2.out.go hb3)
  have HY3 := Hid.mk (HY2.out.go hb3)
  have HB3 := Hid.mk (below_go HB2.out hb3)
  have HN3 := Hid.mk (HN2.out.go (Keep.below hb3))
  clear hb3 HX2 HY2 HB2 HN2 HR
  go_wp2_with fail
  refine (alive_any w3).mono ?_
  rintro e w4 ⟨rfl, hb4⟩
  have HX4 := Hid.mk (HX3.out.go hb4)
  have HY4 := Hid.mk (HY3.out.go hb4)
  have HB4 := Hid.mk (below_go HB3.out hb4)
  have HN4 := Hid.mk (HN3.out.go (Keep.below hb4))
  have HRR := Hid.mk (rright_any K x n w4 (HH.out.go (Keep.below HB4.out)))
  rw [HQ.out] at HRR
  clear hb4 HX3 HY3 HB3 HN3
  go_wp2_with (first | refine wpl_loadN rfl _ rfl w.heap.size rfl x HX4.out ?_)
  refine HRR.out.mono ?_
  rintro e w5 ⟨rfl, hb5⟩
  have HX5 := Hid.mk (HX4.out.go hb5)
  have HY5 := Hid.mk (HY4.out.go hb5)
  have HB5 := Hid.mk (below_go HB4.out hb5)
  have HSA := Hid.mk (same_any _ K y x n n w5 (HN4.out.go (Keep.below hb5)) (HH.out.go (Keep.below HB5.out)))
  rw [neqP_iff.2 rfl] at HSA
  clear hb5 HX4 HY4 HB4 HN4 HRR
  cases q
  all_goals
    go_wp2_with (first | refine wpl_loadN rfl _ rfl w1.heap.size rfl y HY5.out ?_ | refine wpl_loadN rfl _ rfl w.heap.size rfl x HX5.out ?_)
    refine HSA.out.mono ?_
    rintro e w6 ⟨rfl, hb6⟩
    have HB6 := Hid.mk (below_go HB5.out hb6)
    clear hb6
    go_wp2_with fail
    go_ret
    exact ⟨rfl, HB6.out⟩
end Go.Proofs.Ytamibjgahcpkcaa
/- That NodeEncodes answers true. -/
namespace Go.Proofs.Ytamibjgahcpkcaa
open Go.RowKit
set_option linter.unusedVariables false
set_option maxRecDepth 100000
/-- Bytes that may be written over, in memory from a place up to another. -/
def Wb (lo hi : Nat) (u : World) (a : Option Addr) (n : Nat) : Prop := ∀ g off, a = some ⟨g, off, none⟩ → 0 < n → (lo ≤ g ∧ g < hi) ∧ (∀ o, u.frozen? ⟨g, o, none⟩ = false) ∧ ∀ j, j < n → ∃ v, u.cell? ⟨g, off + j, none⟩ = some v
theorem wb_of {base : Nat} {w : World} {a : Option Addr} {n c : Nat} {bs : List Int} (h : Ag w a n c bs) (hf : Fr base w a n) : Wb base w.heap.size w a n := fun g off e h0 => by
  obtain ⟨g', off', e', _, _, hc⟩ := ag_head h h0
  rw [e] at e'
  cases e'
  exact ⟨⟨(hf g off e h0).1, block_lt_of_cell (hc 0 h0)⟩, (hf g off e h0).2, fun j hj => ⟨_, hc j hj⟩⟩
theorem Wb.go {lo hi : Nat} {u u' : World} {a : Option Addr} {n : Nat} (h : Wb lo hi u a n) (hb : ∀ g, lo ≤ g → g < hi → u'.heap[g]? = u.heap[g]?) : Wb lo hi u' a n := fun g off e h0 => by
  obtain ⟨h1, h2, h3⟩ := h g off e h0
  have hg := hb g h1.1 h1.2
  exact ⟨h1, fun o => (World.frozen?_of_block (w := u) hg).trans (h2 o), fun j hj => by obtain ⟨v, hv⟩ := h3 j hj; exact ⟨v, (World.cell?_of_block (w := u) hg).trans hv⟩⟩
theorem Wb.put {lo hi : Nat} {u : World} {a : Option Addr} {n : Nat} (h : Wb lo hi u a n) (p : Addr) (x : Value) : Wb lo hi (u.setCell p x) a n := fun g off e h0 => by
  obtain ⟨h1, h2, h3⟩ := h g off e h0
  exact ⟨h1, fun o => by rw [World.frozen?_setCell]; exact h2 o, fun j hj => by obtain ⟨v, hv⟩ := h3 j hj; exact cell?_setCell_some hv⟩
/-- What holds while the bytes are written over. -/
structure Wr (v2 w3 w6 u : World) (a : Option Addr) (m : Nat) : Prop where
  bel : Below v2.heap.size v2 u
  hi : ∀ k, w3.heap.size ≤ k → k < w6.heap.size → u.heap[k]? = w6.heap[k]?
  sz : w6.heap.size ≤ u.heap.size
  wb : Wb v2.heap.size w3.heap.size u a m
theorem Wr.put {v2 w3 w6 u : World} {a : Option Addr} {m g o : Nat} (h : Wr v2 w3 w6 u a m) (h1 : v2.heap.size ≤ g) (h2 : g < w3.heap.size) (x : Value) : Wr v2 w3 w6 (u.setCell ⟨g, o, none⟩ x) a m :=
  ⟨h.bel.setCell h1 x, fun k hk hk' => (heap_setCell_other _ _ _ _ (by show k ≠ g; omega)).trans (h.hi k hk hk'), by simpa using h.sz, h.wb.put _ _⟩
theorem nep_same (n : PN) : (if NR n = true then NE n else []) = (NEP n).1 ∧ (if NR n = true then (0 : Int) else 50) = ((NEP n).2 : Nat) := by
  unfold NEP
  cases NR n <;> exact ⟨rfl, rfl⟩
set_option maxHeartbeats 8000000 in
theorem encodes_law (K : Nat → Prop) (x : NV) (n : PN) (w : World) (h : NodeAt K w x n) :
    Calls Try.prog 4 #[.agg x.cells.toArray] w fun e w' => e = .returned (.bool true) ∧ Below w.heap.size w w' := by
  have B := nbx_new w x h.c.len
  have HB := Hid.mk (below_new w (.cells x.cells.toArray 29))
  have HH := Hid.mk h
  clear h
  go_enter Try.func4, Try.ntmps4
  go_upto_region 1 with fail
  refine gen_w (p := fun v => Code.wp _ _ _ _ v) (q := fun v => NBx w.heap.size v x ∧ Below w.heap.size w v) ⟨B, HB.out⟩ ?_
  clear B HB
  rintro v ⟨B, hb⟩
  have HB := Hid.mk hb
  have HX := Hid.mk B
  have HCP := Hid.mk (ncopied_any K x n v (HH.out.go (Keep.below hb)))
  clear hb B
  go_wp2_with (first | refine wpl_loadN rfl _ rfl w.heap.size rfl x HX.out ?_)
  refine HCP.out.mono ?_
  rintro e w1 ⟨⟨y, rfl, hy⟩, hb1⟩
  have HX1 := Hid.mk (HX.out.go hb1)
  have HB1 := Hid.mk (below_go HB.out hb1)
  have HL := Hid.mk hy.c.len
  have HY := Hid.mk hy
  clear hb1 hy HX HB HCP
  go_upto_region 2 with (first | refine wpList_store_row rfl 29 _ _ rfl _ y.cells.toArray rfl rfl 29 _ (heap_alloc_new _ _) (infoN' HL.out) (nz_size HL.out) (all_oneCell_toArray (NV.one _)) ?_)
  refine gen_w (p := fun v => Code.wp _ _ _ _ v) (q := fun v => NBx w1.heap.size v y ∧ Below w1.heap.size w1 v) ⟨⟨setRow_heap _ _ _ _ _ _ (heap_alloc_new _ _), HL.out⟩, Below.setRow (below_new w1 _) (Nat.le_refl _) _⟩ ?_
  rintro v2 ⟨B2, b2⟩
  have HX2 := Hid.mk (HX1.out.go b2)
  have HY2 := Hid.mk B2
  have HB2 := Hid.mk (below_go HB1.out b2)
  have HN2 := Hid.mk (HY.out.go (Keep.below b2))
  have hE := nencode_any _ y n v2 HN2.out
  obtain ⟨⟨L, er⟩, hLe⟩ : ∃ Le, NEP n = Le := ⟨_, rfl⟩
  have hns := nep_same n
  rw [hLe] at hE hns
  have HNS := Hid.mk hns
  have HLE := Hid.mk hLe
  have HE := Hid.mk hE
  clear B2 b2 HX1 HB1 HY hE hns hLe
  go_wp2_with (first | refine wpl_loadN rfl _ rfl w1.heap.size rfl y HY2.out ?_)
  refine HE.out.mono ?_
  rintro e w3 ⟨⟨a, m, c, rfl, hag, hfr⟩, hb3⟩
  simp only at hag
  simp only
  have HX3 := Hid.mk (HX2.out.go hb3)
  have HY3 := Hid.mk (HY2.out.go hb3)
  have HB3 := Hid.mk hb3
  have HAG := Hid.mk hag
  have HWB := Hid.mk (wb_of hag hfr)
  have HRE := Hid.mk (rnencode_any K x n w3 (HH.out.go (Keep.below (below_go HB2.out hb3))))
  clear hb3 hag hfr HE
  go_wp2_with (first | refine wpl_loadN rfl _ rfl w.heap.size rfl x HX3.out ?_)
  refine HRE.out.mono ?_
  rintro e w4 ⟨⟨a4, m4, c4, rfl, hag4, hnw4⟩, hb4⟩
  rw [HNS.out.2]
  rw [HNS.out.1] at hag4
  have hag4 : Ag w4 a4 m4 c4 L := hag4
  have hm : m = m4 := by have h1 := HAG.out.l; have h2 := hag4.l; omega
  subst hm
  have HX4 := Hid.mk (HX3.out.go hb4)
  have HY4 := Hid.mk (HY3.out.go hb4)
  have HB4 := Hid.mk hb4
  have HA4 := Hid.mk hag4
  have HNW := Hid.mk hnw4
  have hee : ((er : Int) != er) = false := by simp
  clear hb4 hag4 hnw4 HRE HX3 HY3
  simp only
  go_upto_region 4 with fail
  go_wp2_with fail
  refine (alive_any w4).mono ?_
  rintro e w5 ⟨rfl, hb5⟩
  have HX5 := Hid.mk (HX4.out.go hb5)
  have HY5 := Hid.mk (HY4.out.go hb5)
  have HW5 := Hid.mk (below_go HB4.out hb5)
  have HV5 := Hid.mk (below_go HB3.out HW5.out)
  have HA5 := Hid.mk (HA4.out.at hb5)
  have k1 := conv_any (HAG.out.at HW5.out).i
  have k2 := conv_any HA5.out.i
  have HSA := Hid.mk (same_any _ K y x n n w5 (HN2.out.go (Keep.below HV5.out)) (HH.out.go (Keep.below (below_go HB2.out HV5.out))))
  rw [neqP_iff.2 rfl] at HSA
  generalize strOfNums L = s1 at k1 k2
  have hss : (!s1.toList == s1.toList) = false := by simp
  clear hb5 HX4 HY4 HA4
  go_wp2_with (first | refine wpl_loadN rfl _ rfl w1.heap.size rfl y HY5.out ?_ | refine wpl_loadN rfl _ rfl w.heap.size rfl x HX5.out ?_)
  refine HSA.out.mono ?_
  rintro e w6 ⟨rfl, hb6⟩
  have HW6 := Hid.mk (below_go HW5.out hb6)
  have HV6 := Hid.mk (below_go HV5.out hb6)
  have HA6 := Hid.mk (HA5.out.at hb6)
  have HW0 := Hid.mk (show Wr v2 w3 w6 w6 a m from ⟨HV6.out, fun _ _ _ => rfl, Nat.le_refl _, HWB.out.go fun g h1 h2 => HW6.out.block g h2⟩)
  clear hb6 HSA HX5 HY5 HA5 k1 k2 hss hee
  go_wp2_with fail
  go_loopw [45] (fun s45 u => ∃ j : Nat, j ≤ m ∧ s45 = .int .i64 j ∧ Wr v2 w3 w6 u a m) (fun s45 _ => m - (intOf s45).toNat)
  case atStart => exact ⟨0, by omega, rfl, HW0.out⟩
  case round =>
    obtain ⟨j, hj, rfl, hwr⟩ := hrel
    have HWR := Hid.mk hwr
    clear hwr HW0
    by_cases hlt : j < m
    · have hji : (j : Int) < m := by omega
      obtain ⟨g, off, ha, hnc, hcm, hcs⟩ := ag_head HAG.out (by omega)
      subst ha
      unfold maxLen at hcm
      obtain ⟨⟨g1, g2⟩, hfz, hcell⟩ := HWR.out.wb g off rfl (by omega)
      obtain ⟨cv, hcv⟩ := hcell j hlt
      have hf := hfz
      have HPUT := Hid.mk (HWR.out.put (o := off + j) g1 g2 (.int .u8 99))
      clear hcs hcell g1 g2
      go_wp2_with fail
      exact ⟨⟨j + 1, by omega, by simp, HPUT.out⟩, by simp [intOf]; omega⟩
    · have hji : ¬ (j : Int) < m := by omega
      have hbv := HWR.out.bel
      have HYr := Hid.mk (HY2.out.go hbv)
      have hE := nencode_any _ y n wr (HN2.out.go (Keep.below hbv))
      rw [HLE.out] at hE
      have HE := Hid.mk hE
      have HAr := Hid.mk (show Ag wr a4 m c4 L from ag_keep HA6.out (fun g off e h0 hl => HWR.out.hi g (HNW.out g off e) hl))
      have HBr := Hid.mk (below_go HB2.out hbv)
      clear hE hbv
      go_wp2_with (first | refine wpl_loadN rfl _ rfl w1.heap.size rfl y HYr.out ?_)
      refine HE.out.mono ?_
      rintro e w7 ⟨⟨a7, m7, c7, rfl, hag7, -⟩, hb7⟩
      have hag7 : Ag w7 a7 m7 c7 L := hag7
      simp only
      have k1 := conv_any hag7.i
      have k2 := conv_any (HAr.out.at hb7).i
      generalize strOfNums L = s1 at k1 k2
      have HB7 := Hid.mk (below_go HBr.out hb7)
      clear hag7 hb7 HE
      go_wp2_with fail
      go_ret
      first | exact ⟨rfl, HB7.out⟩ | exact ⟨by simp, HB7.out⟩
end Go.Proofs.Ytamibjgahcpkcaa

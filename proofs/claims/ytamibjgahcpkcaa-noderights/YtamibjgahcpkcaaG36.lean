/- What alive answers. -/
import Derived.Test.YtamibjgahcpkcaaG20
import Derived.Test.YtamibjgahcpkcaaG13
import Derived.Test.YtamibjgahcpkcaaG35
import Derived.Test.YtamibjgahcpkcaaG26
import Derived.Test.YtamibjgahcpkcaaG00
import Derived.ProofKit
import Derived.OpenShut
import Derived.ShutString
import Derived.ChangeOld
import Derived.SizedLaws
namespace Go.Proofs.Ytamibjgahcpkcaa
open Go.RowKit
set_option linter.unusedVariables false
set_option maxRecDepth 100000
def nA : PN := ⟨1, [1, 2], [5], r0, []⟩
def nB : PN := ⟨1, [], [5], r0, []⟩
theorem nA_right : NR nA = true := by decide +kernel
theorem nB_right : NR nB = true := by decide +kernel
theorem nA_enc : NE nA = [196, 130, 32, 18, 5] := by decide +kernel
theorem nB_enc : NE nB = [194, 32, 5] := by decide +kernel
theorem isB_lit {b : List Int} (h : (b.all fun x => decide (0 ≤ x) && decide (x < 256)) = true) : isB b := fun x hx => by
  have := List.all_eq_true.1 h x hx
  simp at this
  exact this
theorem nA_ep : NEP nA = ([196, 130, 32, 18, 5], 0) := by unfold NEP; rw [if_pos nA_right, nA_enc]
theorem okN_nB : okN nB := ⟨isB_lit rfl, isB_lit rfl, ⟨isB_lit rfl, rfl, isB_lit rfl⟩, fun r hr => by cases hr⟩
theorem nB_dec : ND [194, 32, 5] = some nB := by
  have h := NE_isB okN_nB nB_right (by rw [nB_enc]; exact isB_lit rfl)
  rw [nB_enc] at h
  exact h
theorem agk_true {w : World} {a : Option Addr} {n c : Nat} {bs : List Int} (h : Ag w a n c bs) (hn : n ≤ 140737488351232) : AgK (fun _ => True) w a n c bs := ⟨h, hn, fun _ _ _ _ => trivial⟩
set_option maxHeartbeats 4000000 in
theorem alive_any (w : World) : Calls Try.prog 11 #[] w fun e w' => e = .returned (.bool true) ∧ Below w.heap.size w w' := by
  have hw1 : Ag ((w.alloc (.cells #[.int .u8 1, .int .u8 2] 5)).alloc (.cells #[.int .u8 5] 5)) (some ⟨w.heap.size, 0, none⟩) 2 2 [1, 2] :=
    (Ni.row_ag (show Ni.Row w.heap.size (w.alloc (.cells #[.int .u8 1, .int .u8 2] 5)) [1, 2] from heap_alloc_new _ _) rfl (isB_lit rfl) (show (2 : Nat) ≤ 9223372036854775807 by decide)).at (below_new _ _)
  have hw2 : Ag ((w.alloc (.cells #[.int .u8 1, .int .u8 2] 5)).alloc (.cells #[.int .u8 5] 5)) (some ⟨w.heap.size + 1, 0, none⟩) 1 1 [5] := by
    have s1 : (w.alloc (.cells #[.int .u8 1, .int .u8 2] 5)).heap.size = w.heap.size + 1 := by simp
    rw [← s1]
    exact Ni.row_ag (show Ni.Row _ ((w.alloc (.cells #[.int .u8 1, .int .u8 2] 5)).alloc (.cells #[.int .u8 5] 5)) [5] from heap_alloc_new _ _) rfl (isB_lit rfl) (show (1 : Nat) ≤ 9223372036854775807 by decide)
  have hb0 : Below w.heap.size w ((w.alloc (.cells #[.int .u8 1, .int .u8 2] 5)).alloc (.cells #[.int .u8 5] 5)) := below_go (below_new _ _) (below_new _ _)
  have hE := nencode_any (fun _ => True) ⟨1, some ⟨w.heap.size, 0, none⟩, 2, 2, some ⟨w.heap.size + 1, 0, none⟩, 1, 1, rz, none, 0, 0⟩ nA _ ⟨rfl, agk_true hw1 (show (2 : Nat) ≤ 140737488351232 by decide), agk_true hw2 (show (1 : Nat) ≤ 140737488351232 by decide), refAt_zero _ _, ⟨rfl, Nat.le_refl _, Nat.zero_le _, Nat.zero_le _, fun _ => ⟨rfl, rfl⟩⟩, kids_nil _ _ _⟩
  rw [nA_ep] at hE
  have HE := Hid.mk hE
  have HB0 := Hid.mk hb0
  clear hw1 hw2 hb0 hE
  go_enter Try.func11, Try.ntmps11
  go_wp2_with fail
  refine HE.out.mono ?_
  rintro e w1 ⟨⟨a, m, c, rfl, hag, -⟩, hb1⟩
  have hm : m = 5 := hag.l.symm
  subst hm
  have HA := Hid.mk hag
  have HB1 := Hid.mk (below_go HB0.out hb1)
  have HD := Hid.mk (ndecode_any [194, 32, 5] (some ⟨w1.heap.size, 0, none⟩) 3 3 (w1.alloc (.cells #[.int .u8 194, .int .u8 32, .int .u8 5] 5)) (Ni.row_ag (show Ni.Row w1.heap.size (w1.alloc (.cells #[.int .u8 194, .int .u8 32, .int .u8 5] 5)) [194, 32, 5] from heap_alloc_new _ _) rfl (isB_lit rfl) (show (3 : Nat) ≤ 9223372036854775807 by decide)) (show (3 : Nat) ≤ 140737488351232 by decide))
  rw [nB_dec] at HD
  clear hag hb1 HE HB0
  go_wp2_with fail
  refine HD.out.mono ?_
  rintro e w2 ⟨hb2, y, rfl, hy⟩
  have HL := Hid.mk hy.c.len
  have HY := Hid.mk hy
  have HB2 := Hid.mk (below_go (below_go HB1.out (below_new _ _)) hb2)
  have HA2 := Hid.mk (HA.out.at (below_go (below_new _ _) hb2))
  clear hy hb2 HD
  go_upto_region 3 with (first | refine wpList_store_row rfl 29 _ _ rfl _ y.cells.toArray rfl rfl 29 _ (heap_alloc_new _ _) (infoN' HL.out) (nz_size HL.out) (all_oneCell_toArray (NV.one _)) ?_)
  refine gen_w (p := fun v => Code.wp _ _ _ _ v) (q := fun v => NBx w2.heap.size v y ∧ Below w2.heap.size w2 v) ⟨⟨setRow_heap _ _ _ _ _ _ (heap_alloc_new _ _), HL.out⟩, Below.setRow (below_new w2 _) (Nat.le_refl _) _⟩ ?_
  rintro v3 ⟨B3, b3⟩
  have c0 := B3.c0
  have c1 := B3.c1
  have c2 := B3.c2
  have hk : y.k = 1 := HY.out.k
  have hp : y.pn = 0 := HY.out.p.l.symm
  have hv : y.vn = 1 := HY.out.v.l.symm
  have k1 := conv_any (HA2.out.at b3).i
  have k2 := conv_any (HY.out.v.1.at b3).i
  have e1 : strOfNums [196, 130, 32, 18, 5] = ⟨#[196, 130, 32, 18, 5]⟩ := by rfl
  have e2 : strOfNums nB.v = ⟨#[5]⟩ := by rfl
  rw [e1] at k1
  rw [e2, hv] at k2
  rw [hk] at c0
  rw [hp] at c1
  rw [hv] at c2
  have HB3 := Hid.mk (below_go HB2.out b3)
  clear B3 b3 hk hp hv e1 e2
  go_wp2_with fail
  go_ret
  first | exact ⟨rfl, HB3.out⟩ | (refine ⟨congrArg (fun b => Ending.returned (Value.bool b)) ?_, HB3.out⟩; decide +kernel)
end Go.Proofs.Ytamibjgahcpkcaa
/- That NodeRights answers true. -/
namespace Go.Proofs.Ytamibjgahcpkcaa
open Go.RowKit
set_option linter.unusedVariables false
set_option maxRecDepth 100000
set_option maxHeartbeats 4000000 in
theorem rights_law (K : Nat → Prop) (x : NV) (n : PN) (w : World) (h : NodeAt K w x n) :
    Calls Try.prog 3 #[.agg x.cells.toArray] w fun e w' => e = .returned (.bool true) ∧ Below w.heap.size w w' := by
  have B := nbx_new w x h.c.len
  have HB := Hid.mk (below_new w (.cells x.cells.toArray 29))
  obtain ⟨q, hq⟩ : ∃ q, NR n = q := ⟨_, rfl⟩
  have HH := Hid.mk h
  have HQ := Hid.mk hq
  clear h hq
  go_enter Try.func3, Try.ntmps3
  go_upto_region 1 with fail
  refine gen_w (p := fun v => Code.wp _ _ _ _ v) (q := fun v => NBx w.heap.size v x ∧ Below w.heap.size w v) ⟨B, HB.out⟩ ?_
  clear B HB
  rintro v ⟨B, hb⟩
  have HB := Hid.mk hb
  have HX := Hid.mk B
  have HCP := Hid.mk (ncopied_any K x n v (HH.out.go (Keep.below hb)))
  clear hb B
  go_wp2_with (first | refine wpl_loadN rfl _ rfl w.heap.size rfl x HX.out ?_)
  refine HCP.out.mono ?_
  rintro e w1 ⟨⟨y, rfl, hy⟩, hb1⟩
  have HX1 := Hid.mk (HX.out.go hb1)
  have HB1 := Hid.mk (below_go HB.out hb1)
  have HL := Hid.mk hy.c.len
  have HY := Hid.mk hy
  clear hb1 hy HX HB HCP
  go_upto_region 2 with (first | refine wpList_store_row rfl 29 _ _ rfl _ y.cells.toArray rfl rfl 29 _ (heap_alloc_new _ _) (infoN' HL.out) (nz_size HL.out) (all_oneCell_toArray (NV.one _)) ?_)
  refine gen_w (p := fun v => Code.wp _ _ _ _ v) (q := fun v => NBx w1.heap.size v y ∧ Below w1.heap.size w1 v) ⟨⟨setRow_heap _ _ _ _ _ _ (heap_alloc_new _ _), HL.out⟩, Below.setRow (below_new w1 _) (Nat.le_refl _) _⟩ ?_
  rintro v2 ⟨B2, b2⟩
  have HX2 := Hid.mk (HX1.out.go b2)
  have HY2 := Hid.mk B2
  have HB2 := Hid.mk (below_go HB1.out b2)
  have HN2 := Hid.mk (HY.out.go (Keep.below b2))
  have HR := Hid.mk (nright_any _ y n v2 HN2.out)
  rw [HQ.out] at HR
  clear B2 b2 HX1 HB1 HY
  go_wp2_with (first | refine wpl_loadN rfl _ rfl w1.heap.size rfl y HY2.out ?_)
  refine HR.out.mono ?_
  rintro e w3 ⟨rfl, hb3⟩
  have HX3 := Hid.mk (HX2.out.go hb3)
  have HY3 := Hid.mk (HY2.out.go hb3)
  have HB3 := Hid.mk (below_go HB2.out hb3)
  have HN3 := Hid.mk (HN2.out.go (Keep.below hb3))
  clear hb3 HX2 HY2 HB2 HN2 HR
  go_wp2_with fail
  refine (alive_any w3).mono ?_
  rintro e w4 ⟨rfl, hb4⟩
  have HX4 := Hid.mk (HX3.out.go hb4)
  have HY4 := Hid.mk (HY3.out.go hb4)
  have HB4 := Hid.mk (below_go HB3.out hb4)
  have HN4 := Hid.mk (HN3.out.go (Keep.below hb4))
  have HRR := Hid.mk (rright_any K x n w4 (HH.out.go (Keep.below HB4.out)))
  rw [HQ.out] at HRR
  clear hb4 HX3 HY3 HB3 HN3
  go_wp2_with (first | refine wpl_loadN rfl _ rfl w.heap.size rfl x HX4.out ?_)
  refine HRR.out.mono ?_
  rintro e w5 ⟨rfl, hb5⟩
  have HX5 := Hid.mk (HX4.out.go hb5)
  have HY5 := Hid.mk (HY4.out.go hb5)
  have HB5 := Hid.mk (below_go HB4.out hb5)
  have HSA := Hid.mk (same_any _ K y x n n w5 (HN4.out.go (Keep.below hb5)) (HH.out.go (Keep.below HB5.out)))
  rw [neqP_iff.2 rfl] at HSA
  clear hb5 HX4 HY4 HB4 HN4 HRR
  cases q
  all_goals
    go_wp2_with (first | refine wpl_loadN rfl _ rfl w1.heap.size rfl y HY5.out ?_ | refine wpl_loadN rfl _ rfl w.heap.size rfl x HX5.out ?_)
    refine HSA.out.mono ?_
    rintro e w6 ⟨rfl, hb6⟩
    have HB6 := Hid.mk (below_go HB5.out hb6)
    clear hb6
    go_wp2_with fail
    go_ret
    exact ⟨rfl, HB6.out⟩
end Go.Proofs.Ytamibjgahcpkcaa
/- How a slice of bytes that is handed in reads as data: nil, or a row of bytes that takes no more than the form's own reach. -/
namespace Go.Proofs.Ytamibjgahcpkcaa
open Go.ChangeShapes Go.WideShapes Go.ChangeAt Go.RowKit
open Go.ChangeMaps (open_string shut_string)
set_option linter.unusedVariables false
set_option maxRecDepth 100000
theorem own : ownKnob Try.prog.godebug = none := by kernel_rfl
theorem laidOut : laidOutB Try.prog = true := by kernel_rfl
theorem cells5 : Try.prog.cellsOf 5 = 1 := by kernel_rfl
theorem bytes5 : Try.prog.bytesOf 5 = 1 := by kernel_rfl
/-- A slice of bytes that came in, opened: its bytes; it takes no more than the reach. -/
theorem open_bytes {H : Type} {enc : TypeId × Value → H} {w : World} {base b0 : Nat} {r : Reach} {held : Bool} {v : Value} {d : DataW H} {p : List MemPlace}
    (hv : Value.okWide Try.prog w r b0 22 v) (h : DataW.Trod enc Try.prog w base (fun _ => true) held 22 v d p)
    (hsz : ∀ elems spare, d = .slice elems spare → (elems.length + spare.length) * Try.prog.bytesOf 5 ≤ reachBytes) :
    ∃ a len cap bs, v = .slice a len cap ∧ In0 w a len cap bs ∧ (a = none → len = 0 ∧ cap = 0) ∧ bs.length = len ∧ (∀ x ∈ bs, 0 ≤ x ∧ x < 256) ∧ len ≤ 140737488351232 := by
  obtain ⟨a, len, cap, rfl⟩ := okWide_slice Try.underlying22 hv
  obtain ⟨fuel, hf⟩ := h
  rcases open_ints Try.underlying22 Try.underlying5 cells5 hf with ⟨hcs, _⟩ | ⟨x, l, c, zs, hcs, _, hl, hm, hz, hx, hcell, hwz⟩
  · simp [Value.cells] at hcs
    obtain ⟨rfl, rfl, rfl⟩ := hcs
    exact ⟨none, 0, 0, [], rfl, .inl ⟨rfl, rfl⟩, fun _ => ⟨rfl, rfl⟩, rfl, (fun x hx => by cases hx), by omega⟩
  · simp [Value.cells] at hcs
    obtain ⟨rfl, rfl, rfl⟩ := hcs
    have hz2 : zs.length = cap := by simpa using hz
    have hsz2 := hsz _ _ (Prod.mk.inj hx).1
    rw [bytes5] at hsz2
    simp only [lits, List.length_map, List.length_take, List.length_drop, reachBytes] at hsz2
    have hlen : (zs.take len).length = len := by rw [List.length_take]; omega
    have hbd : ∀ n ∈ zs.take len, 0 ≤ n ∧ n < 256 := fun n hn => by
      have := bounds_u8 (hwz n (List.mem_of_mem_take hn))
      omega
    refine ⟨some x, len, cap, zs.take len, rfl, ?_, (fun h => by cases h), hlen, hbd, by omega⟩
    by_cases h0 : len = 0
    · subst h0
      exact .inl ⟨rfl, by simp⟩
    · obtain ⟨b, off, spot⟩ := x
      have hc := hcell 0 (by omega)
      have hspot : spot = none := by simpa [Addr.add] using World.cell?_spot hc
      subst hspot
      refine .inr ⟨b, off, rfl, hlen, by omega, hl, hm, fun j hj => ?_⟩
      rw [hlen] at hj
      have := hcell j (by omega)
      rw [addr_add] at this
      rw [this, List.getD, List.getD, List.getElem?_take_of_lt hj]
theorem open_ag {H : Type} {enc : TypeId × Value → H} {w : World} {base b0 : Nat} {r : Reach} {held : Bool} {v : Value} {d : DataW H} {p : List MemPlace}
    (hv : Value.okWide Try.prog w r b0 22 v) (h : DataW.Trod enc Try.prog w base (fun _ => true) held 22 v d p)
    (hsz : ∀ elems spare, d = .slice elems spare → (elems.length + spare.length) * Try.prog.bytesOf 5 ≤ reachBytes) :
    ∃ a len cap bs, v = .slice a len cap ∧ Ag w a len cap bs ∧ len ≤ 140737488351232 := by
  obtain ⟨a, len, cap, bs, h1, h2, h3, h4, h5, h6⟩ := open_bytes hv h hsz
  exact ⟨a, len, cap, bs, h1, ⟨h2, h3, h4, h5⟩, h6⟩
end Go.Proofs.Ytamibjgahcpkcaa

/- What Encode answers. -/
import Derived.Test.YtamibjgahcpkcaaG27
import Derived.Test.YtamibjgahcpkcaaG30
import Derived.Test.YtamibjgahcpkcaaG18
namespace Go.Proofs.Ytamibjgahcpkcaa
open Go.RowKit
set_option linter.unusedVariables false
set_option maxRecDepth 100000
/-- What Encode tells: the bytes, and the error. -/
def NEP (n : PN) : List Int × Nat := if NR n = true then (NE n, 0) else ([], 50)
theorem NR_small {n : PN} (h : NR n = true) : n.ks.length ≤ 100 ∧ n.p.length ≤ 1000 := by
  rcases NR_parts h with ⟨_, h1, _, _, _, _, _, h7⟩ | ⟨_, _, h2, _, _, _, _, h7⟩ | ⟨_, h1, _, _, _, h5, _, _⟩
  · rw [h7]; exact ⟨by simp, by omega⟩
  · rw [h7]; exact ⟨by simp, by omega⟩
  · rw [h1]; exact ⟨by omega, by simp⟩
/-- What Encode's answer is in memory. -/
def EPost (w : World) (r : List Int × Nat) : Ending → World → Prop := fun e w' => (∃ a m c, e = .returned (.tuple #[.slice a m c, .int .i64 (r.2 : Nat)]) ∧ Ag w' a m c r.1 ∧ Fr w.heap.size w' a m) ∧ Below w.heap.size w w'
set_option maxHeartbeats 4000000 in
theorem nencode_any (K : Nat → Prop) (x : NV) (n : PN) (w : World) (h : NodeAt K w x n) :
    Calls Try.prog 14 #[.agg x.cells.toArray] w (EPost w (NEP n)) := by
  have B := nbx_new w x h.c.len
  have HB := Hid.mk (below_new w (.cells x.cells.toArray 29))
  have HR := Hid.mk (show ∀ v, Below w.heap.size w v → Calls Try.prog 10 #[.agg x.cells.toArray] v fun e w' => e = .returned (.bool (NR n)) ∧ Below v.heap.size v w' from fun v hv => nright_any K x n v (h.go (Keep.below hv)))
  obtain ⟨q, hq⟩ : ∃ q, NR n = q := ⟨_, rfl⟩
  have HQ := Hid.mk hq
  have HH := Hid.mk h
  rw [hq] at HR
  obtain ⟨res, hres⟩ : ∃ res, NEP n = res := ⟨_, rfl⟩
  rw [hres]
  unfold NEP at hres
  rw [hq] at hres
  have HRES := Hid.mk hres
  clear h hq hres
  go_enter Try.func14, Try.ntmps14
  go_upto_region 1 with fail
  refine gen_w (p := fun v => Code.wp _ _ _ _ v) (q := fun v => NBx w.heap.size v x ∧ Below w.heap.size w v) ⟨B, HB.out⟩ ?_
  clear B HB
  rintro v ⟨B, hb⟩
  have HB := Hid.mk hb
  have HX := Hid.mk B
  clear hb B
  go_wp2_with (first | refine wpl_loadN rfl _ rfl w.heap.size rfl x HX.out ?_)
  refine (HR.out v HB.out).mono ?_
  rintro e w1 ⟨rfl, hb1⟩
  have HX1 := Hid.mk (HX.out.go hb1)
  have HB1 := Hid.mk (below_go HB.out hb1)
  clear hb1 HX HB
  have hr := HRES.out
  cases q with
  | false =>
    rw [if_neg (by simp)] at hr
    subst hr
    go_wp2_with fail
    go_ret2
    exact ⟨⟨none, 0, 0, rfl, ⟨.inl ⟨rfl, rfl⟩, fun _ => ⟨rfl, rfl⟩, rfl, fun x hx => by cases hx⟩, fun g off e => by cases e⟩, HB1.out⟩
  | true =>
    rw [if_pos rfl] at hr
    subst hr
    obtain ⟨s1, s2⟩ := NR_small HQ.out
    have HIT := Hid.mk (itemOf_any K x n w1 (HH.out.go (Keep.below HB1.out)) s1 s2)
    obtain ⟨b1, b2, b3⟩ := node_back HH.out.okN HQ.out
    have HEP := Hid.mk (encP_yes b1)
    clear s1 s2 b1 b2 b3
    go_wp2_with (first | refine wpl_loadN rfl _ rfl w.heap.size rfl x HX1.out ?_)
    refine HIT.out.mono ?_
    rintro e w2 ⟨⟨y, rfl, hy⟩, hb2⟩
    have HEN := Hid.mk (encode_own (itemP n) y w2 (liesP_lies _ _ hy))
    rw [HEP.out] at HEN
    have HB2 := Hid.mk (below_go HB1.out hb2)
    clear hy hb2
    go_wp2_with fail
    refine HEN.out.mono ?_
    rintro e w3 ⟨⟨a, m, c, rfl, hag, hfr⟩, hb3⟩
    have HB3 := Hid.mk (below_go HB2.out hb3)
    have HAG := Hid.mk hag
    have HFR := Hid.mk (show Fr w.heap.size w3 a m from fun g off e h0 => ⟨Nat.le_trans HB2.out.size (hfr g off e h0).1, (hfr g off e h0).2⟩)
    clear hag hfr hb3
    go_wp2_with fail
    go_ret2
    exact ⟨⟨a, m, c, rfl, HAG.out, HFR.out⟩, HB3.out⟩
end Go.Proofs.Ytamibjgahcpkcaa
/- What alive answers. -/
namespace Go.Proofs.Ytamibjgahcpkcaa
open Go.RowKit
set_option linter.unusedVariables false
set_option maxRecDepth 100000
def nA : PN := ⟨1, [1, 2], [5], r0, []⟩
def nB : PN := ⟨1, [], [5], r0, []⟩
theorem nA_right : NR nA = true := by decide +kernel
theorem nB_right : NR nB = true := by decide +kernel
theorem nA_enc : NE nA = [196, 130, 32, 18, 5] := by decide +kernel
theorem nB_enc : NE nB = [194, 32, 5] := by decide +kernel
theorem isB_lit {b : List Int} (h : (b.all fun x => decide (0 ≤ x) && decide (x < 256)) = true) : isB b := fun x hx => by
  have := List.all_eq_true.1 h x hx
  simp at this
  exact this
theorem nA_ep : NEP nA = ([196, 130, 32, 18, 5], 0) := by unfold NEP; rw [if_pos nA_right, nA_enc]
theorem okN_nB : okN nB := ⟨isB_lit rfl, isB_lit rfl, ⟨isB_lit rfl, rfl, isB_lit rfl⟩, fun r hr => by cases hr⟩
theorem nB_dec : ND [194, 32, 5] = some nB := by
  have h := NE_isB okN_nB nB_right (by rw [nB_enc]; exact isB_lit rfl)
  rw [nB_enc] at h
  exact h
theorem agk_true {w : World} {a : Option Addr} {n c : Nat} {bs : List Int} (h : Ag w a n c bs) (hn : n ≤ 140737488351232) : AgK (fun _ => True) w a n c bs := ⟨h, hn, fun _ _ _ _ => trivial⟩
set_option maxHeartbeats 4000000 in
theorem alive_any (w : World) : Calls Try.prog 11 #[] w fun e w' => e = .returned (.bool true) ∧ Below w.heap.size w w' := by
  have hw1 : Ag ((w.alloc (.cells #[.int .u8 1, .int .u8 2] 5)).alloc (.cells #[.int .u8 5] 5)) (some ⟨w.heap.size, 0, none⟩) 2 2 [1, 2] :=
    (Ni.row_ag (show Ni.Row w.heap.size (w.alloc (.cells #[.int .u8 1, .int .u8 2] 5)) [1, 2] from heap_alloc_new _ _) rfl (isB_lit rfl) (show (2 : Nat) ≤ 9223372036854775807 by decide)).at (below_new _ _)
  have hw2 : Ag ((w.alloc (.cells #[.int .u8 1, .int .u8 2] 5)).alloc (.cells #[.int .u8 5] 5)) (some ⟨w.heap.size + 1, 0, none⟩) 1 1 [5] := by
    have s1 : (w.alloc (.cells #[.int .u8 1, .int .u8 2] 5)).heap.size = w.heap.size + 1 := by simp
    rw [← s1]
    exact Ni.row_ag (show Ni.Row _ ((w.alloc (.cells #[.int .u8 1, .int .u8 2] 5)).alloc (.cells #[.int .u8 5] 5)) [5] from heap_alloc_new _ _) rfl (isB_lit rfl) (show (1 : Nat) ≤ 9223372036854775807 by decide)
  have hb0 : Below w.heap.size w ((w.alloc (.cells #[.int .u8 1, .int .u8 2] 5)).alloc (.cells #[.int .u8 5] 5)) := below_go (below_new _ _) (below_new _ _)
  have hE := nencode_any (fun _ => True) ⟨1, some ⟨w.heap.size, 0, none⟩, 2, 2, some ⟨w.heap.size + 1, 0, none⟩, 1, 1, rz, none, 0, 0⟩ nA _ ⟨rfl, agk_true hw1 (show (2 : Nat) ≤ 140737488351232 by decide), agk_true hw2 (show (1 : Nat) ≤ 140737488351232 by decide), refAt_zero _ _, ⟨rfl, Nat.le_refl _, Nat.zero_le _, Nat.zero_le _, fun _ => ⟨rfl, rfl⟩⟩, kids_nil _ _ _⟩
  rw [nA_ep] at hE
  have HE := Hid.mk hE
  have HB0 := Hid.mk hb0
  clear hw1 hw2 hb0 hE
  go_enter Try.func11, Try.ntmps11
  go_wp2_with fail
  refine HE.out.mono ?_
  rintro e w1 ⟨⟨a, m, c, rfl, hag, -⟩, hb1⟩
  have hm : m = 5 := hag.l.symm
  subst hm
  have HA := Hid.mk hag
  have HB1 := Hid.mk (below_go HB0.out hb1)
  have HD := Hid.mk (ndecode_any [194, 32, 5] (some ⟨w1.heap.size, 0, none⟩) 3 3 (w1.alloc (.cells #[.int .u8 194, .int .u8 32, .int .u8 5] 5)) (Ni.row_ag (show Ni.Row w1.heap.size (w1.alloc (.cells #[.int .u8 194, .int .u8 32, .int .u8 5] 5)) [194, 32, 5] from heap_alloc_new _ _) rfl (isB_lit rfl) (show (3 : Nat) ≤ 9223372036854775807 by decide)) (show (3 : Nat) ≤ 140737488351232 by decide))
  rw [nB_dec] at HD
  clear hag hb1 HE HB0
  go_wp2_with fail
  refine HD.out.mono ?_
  rintro e w2 ⟨hb2, y, rfl, hy⟩
  have HL := Hid.mk hy.c.len
  have HY := Hid.mk hy
  have HB2 := Hid.mk (below_go (below_go HB1.out (below_new _ _)) hb2)
  have HA2 := Hid.mk (HA.out.at (below_go (below_new _ _) hb2))
  clear hy hb2 HD
  go_upto_region 3 with (first | refine wpList_store_row rfl 29 _ _ rfl _ y.cells.toArray rfl rfl 29 _ (heap_alloc_new _ _) (infoN' HL.out) (nz_size HL.out) (all_oneCell_toArray (NV.one _)) ?_)
  refine gen_w (p := fun v => Code.wp _ _ _ _ v) (q := fun v => NBx w2.heap.size v y ∧ Below w2.heap.size w2 v) ⟨⟨setRow_heap _ _ _ _ _ _ (heap_alloc_new _ _), HL.out⟩, Below.setRow (below_new w2 _) (Nat.le_refl _) _⟩ ?_
  rintro v3 ⟨B3, b3⟩
  have c0 := B3.c0
  have c1 := B3.c1
  have c2 := B3.c2
  have hk : y.k = 1 := HY.out.k
  have hp : y.pn = 0 := HY.out.p.l.symm
  have hv : y.vn = 1 := HY.out.v.l.symm
  have k1 := conv_any (HA2.out.at b3).i
  have k2 := conv_any (HY.out.v.1.at b3).i
  have e1 : strOfNums [196, 130, 32, 18, 5] = ⟨#[196, 130, 32, 18, 5]⟩ := by rfl
  have e2 : strOfNums nB.v = ⟨#[5]⟩ := by rfl
  rw [e1] at k1
  rw [e2, hv] at k2
  rw [hk] at c0
  rw [hp] at c1
  rw [hv] at c2
  have HB3 := Hid.mk (below_go HB2.out b3)
  clear B3 b3 hk hp hv e1 e2
  go_wp2_with fail
  go_ret
  first | exact ⟨rfl, HB3.out⟩ | (refine ⟨congrArg (fun b => Ending.returned (Value.bool b)) ?_, HB3.out⟩; decide +kernel)
end Go.Proofs.Ytamibjgahcpkcaa

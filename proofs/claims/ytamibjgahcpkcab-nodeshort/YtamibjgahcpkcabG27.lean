/- What Decode answers; so what Right answers. -/
import Derived.Test.YtamibjgahcpkcabG23
import Derived.Test.YtamibjgahcpkcabG26
import Derived.Test.YtamibjgahcpkcabG21
namespace Go.Proofs.Ytamibjgahcpkcab
open Go.RowKit
set_option linter.unusedVariables false
set_option maxRecDepth 100000
theorem sub_small {b : List Int} {t : T} (hb : isB b) (h : decP b = .ok t) : ∀ u ∈ t.its, u.bs.length ≤ 16777216 := fun u hu => by
  obtain ⟨h1, h2, h3⟩ := decP_ok hb h
  have hbo := (encP_ok h2).2.1
  have l1 := body_le_enc u
  have l2 := encs_mem_le hu
  have l3 : (bodyOf t).length = t.bs.length + (encs t.its).length := by unfold bodyOf; rw [List.length_append]
  have l4 : (bodyOf u).length = u.bs.length + (encs u.its).length := by unfold bodyOf; rw [List.length_append]
  omega
/-- The result's block, while Decode goes on. -/
structure Dd (w v : World) : Prop where
  row : v.heap[w.heap.size]? = some (.cells nz.cells.toArray 29)
  bel : Below w.heap.size w v
  sz : w.heap.size + 1 ≤ v.heap.size
theorem Dd.go {w v v' : World} (h : Dd w v) (hb : Below v.heap.size v v') : Dd w v' := ⟨Below.row hb h.row, below_go h.bel hb, Nat.le_trans h.sz hb.size⟩
theorem dd_new (w : World) : Dd w (w.alloc (.cells nz.cells.toArray 29)) := ⟨heap_alloc_new _ _, below_new _ _, by simp⟩
set_option maxHeartbeats 8000000 in
theorem decode_step (b : List Int) (hr : isB b → ∀ i, i.length < b.length → i.length < 32 → isB i → DecSaid i) : DecSaid b := by
  intro a n c w hag hn
  have hbB : isB b := hag.b
  have HREC := Hid.mk (hr hbB)
  have HAG := Hid.mk hag
  have HBB := Hid.mk hbB
  obtain ⟨res, hres⟩ : ∃ res, ND b = res := ⟨_, rfl⟩
  rw [hres]
  rw [ND_eq hbB] at hres
  have HRES := Hid.mk hres
  have HDD0 := Hid.mk (dd_new w)
  clear hag hr hres hbB
  go_enter Try.func8, Try.ntmps8
  go_upto_region 1 with fail
  refine gen_w (p := fun v => Code.wp _ _ _ _ v) (q := fun v => Dd w v) HDD0.out ?_
  clear HDD0
  intro v D0
  have HD0 := Hid.mk D0
  have HCD := Hid.mk (decode_any a n c b v (HAG.out.at D0.bel) hn)
  clear D0
  go_wp2_with fail
  refine HCD.out.mono ?_
  intro e w1 hp
  obtain ⟨hb1, hp⟩ := hp
  have HD1 := Hid.mk (HD0.out.go hb1)
  have HV0 := Hid.mk HD0.out.sz
  cases hq : decP b with
  | bad er =>
    rw [hq] at hp
    have hr := HRES.out
    rw [hq] at hr
    have hr : none = res := hr
    subst hr
    obtain ⟨rfl, her⟩ := hp
    have hee : ((er : Int) != 0) = true := by rw [bne_iff_ne]; omega
    clear hb1 hq her
    go_upto_region 2 with fail
    refine gen_w (p := fun v => Code.wp _ _ _ _ v) (q := fun v => Dd w v) (HD1.out.go (below_new w1 _)) ?_
    intro v2 D2
    have HD2 := Hid.mk D2
    clear D2
    go_wp2_with (first | refine wpList_store_row rfl 29 _ _ rfl _ nz.cells.toArray rfl rfl 29 _ HD2.out.row (infoN' rfl) (nz_size rfl) (all_oneCell_toArray (NV.one _)) ?_)
    refine bodyPost_ret (results_node Try.results8 _ _ w.heap.size nz rfl rfl (setRow_heap _ _ _ _ _ _ HD2.out.row)) rfl ?_
    exact ⟨Below.setRow HD2.out.bel (Nat.le_refl _) _, rfl⟩
  | ok t =>
    rw [hq] at hp
    have hr := HRES.out
    rw [hq] at hr
    obtain ⟨y, rfl, hy⟩ := hp
    have HLY := Hid.mk (show LiesP (fun b => w.heap.size + 1 ≤ b) w1 t y from liesP_mono (fun b hb hlt => ⟨rfl, by have := HV0.out; omega⟩) _ _ hy)
    have hr : (match nodeOfP t with
      | none => none
      | some n => if NR n = true then some n else none) = res := hr
    have HR := Hid.mk hr
    have HSM := Hid.mk (sub_small HBB.out hq)
    have HSB := Hid.mk (fun n hn => node_sub (n := n) HBB.out hq hn)
    clear hb1 hq hy hr HRES
    go_upto_region 2 with fail
    refine gen_w (p := fun v => Code.wp _ _ _ _ v) (q := fun v => Dd w v ∧ B1 w1.heap.size v y ∧ LiesP (fun b => w.heap.size + 1 ≤ b) v t y) ⟨HD1.out.go (below_new w1 _), b1_new w1 y, liesP_mono (fun b hb hlt => ⟨heap_alloc_old _ _ hlt, hb⟩) _ _ HLY.out⟩ ?_
    rintro v2 ⟨D2, B2, L2⟩
    have c0 := B2.c0
    have c1 := B2.c1
    have c2 := B2.c2
    have HD2 := Hid.mk D2
    have HNO := Hid.mk (nodeOf_any (w.heap.size + 1) t y v2 L2 D2.sz HSM.out)
    clear D2 B2 L2
    go_wp2_with fail
    refine HNO.out.mono ?_
    intro e w3 hp
    obtain ⟨hb3, hp⟩ := hp
    have HD3 := Hid.mk (HD2.out.go hb3)
    have hr := HR.out
    cases hq : nodeOfP t with
    | none =>
      rw [hq] at hp hr
      have hr : none = res := hr
      subst hr
      obtain ⟨y', hl', rfl⟩ := hp
      have HL := Hid.mk hl'
      clear hb3 hq hl' c0 c1 c2
      go_upto_region 5 with (first | refine wpList_store_row rfl 29 _ _ rfl _ y'.cells.toArray rfl rfl 29 _ (heap_alloc_new _ _) (infoN' HL.out) (nz_size HL.out) (all_oneCell_toArray (NV.one _)) ?_)
      refine gen_w (p := fun v => Code.wp _ _ _ _ v) (q := fun v => Dd w v) (HD3.out.go (Below.setRow (below_new w3 _) (Nat.le_refl _) _)) ?_
      intro v4 D4
      have HD4 := Hid.mk D4
      clear D4
      go_wp2_with (first | refine wpList_store_row rfl 29 _ _ rfl _ nz.cells.toArray rfl rfl 29 _ HD4.out.row (infoN' rfl) (nz_size rfl) (all_oneCell_toArray (NV.one _)) ?_)
      refine bodyPost_ret (results_node Try.results8 _ _ w.heap.size nz rfl rfl (setRow_heap _ _ _ _ _ _ HD4.out.row)) rfl ?_
      exact ⟨Below.setRow HD4.out.bel (Nat.le_refl _) _, rfl⟩
    | some nn =>
      rw [hq] at hp hr
      obtain ⟨y', rfl, hna⟩ := hp
      have hr : (if NR nn = true then some nn else none) = res := hr
      have HL := Hid.mk hna.c.len
      have HNA := Hid.mk hna
      have HRI := Hid.mk (show ∀ u, NodeAt (fun _ => True) u y' nn → Calls Try.prog 11 #[.agg y'.cells.toArray] u fun e w' => e = .returned (.bool (NR nn)) ∧ Below u.heap.size u w' from fun u hu => rightIf _ y' nn u hu (fun r hrr h32 => by
        obtain ⟨s1, s2⟩ := HSB.out nn hq r hrr
        exact HREC.out r.i s1 h32 s2))
      obtain ⟨q, hqq⟩ : ∃ q, NR nn = q := ⟨_, rfl⟩
      rw [hqq] at hr HRI
      have HR2 := Hid.mk hr
      clear hb3 hq hna c0 c1 c2 hr hqq
      go_upto_region 5 with (first | refine wpList_store_row rfl 29 _ _ rfl _ y'.cells.toArray rfl rfl 29 _ (heap_alloc_new _ _) (infoN' HL.out) (nz_size HL.out) (all_oneCell_toArray (NV.one _)) ?_)
      refine gen_w (p := fun v => Code.wp _ _ _ _ v) (q := fun v => Dd w v ∧ NBx w3.heap.size v y' ∧ Below w3.heap.size w3 v) ⟨HD3.out.go (Below.setRow (below_new w3 _) (Nat.le_refl _) _), ⟨setRow_heap _ _ _ _ _ _ (heap_alloc_new _ _), HL.out⟩, Below.setRow (below_new w3 _) (Nat.le_refl _) _⟩ ?_
      rintro v4 ⟨D4, N4, b4⟩
      have HD4 := Hid.mk D4
      have HN4 := Hid.mk N4
      have HB4 := Hid.mk b4
      clear D4 N4 b4
      go_wp2_with (first | refine wpl_loadN rfl _ rfl w3.heap.size rfl y' HN4.out ?_)
      refine (HRI.out v4 (HNA.out.go (Keep.any HB4.out))).mono ?_
      rintro e w5 ⟨rfl, hb5⟩
      have HD5 := Hid.mk (HD4.out.go hb5)
      have HN5 := Hid.mk (HN4.out.go hb5)
      have HB5 := Hid.mk (below_go HB4.out hb5)
      clear hb5
      have hr := HR2.out
      cases q with
      | false =>
        rw [if_neg (by simp)] at hr
        subst hr
        go_wp2_with (first | refine wpList_store_row rfl 29 _ _ rfl _ nz.cells.toArray rfl rfl 29 _ HD5.out.row (infoN' rfl) (nz_size rfl) (all_oneCell_toArray (NV.one _)) ?_)
        refine bodyPost_ret (results_node Try.results8 _ _ w.heap.size nz rfl rfl (setRow_heap _ _ _ _ _ _ HD5.out.row)) rfl ?_
        exact ⟨Below.setRow HD5.out.bel (Nat.le_refl _) _, rfl⟩
      | true =>
        rw [if_pos rfl] at hr
        subst hr
        go_wp2_with (first | refine wpl_loadN rfl _ rfl w3.heap.size rfl y' HN5.out ?_ | refine wpList_store_row rfl 29 _ _ rfl _ y'.cells.toArray rfl rfl 29 _ HD5.out.row (infoN' HL.out) (nz_size HL.out) (all_oneCell_toArray (NV.one _)) ?_)
        refine bodyPost_ret (results_node Try.results8 _ _ w.heap.size y' HL.out rfl (setRow_heap _ _ _ _ _ _ HD5.out.row)) rfl ?_
        refine ⟨Below.setRow HD5.out.bel (Nat.le_refl _) _, y', rfl, HNA.out.go fun k hK hk => ?_⟩
        have e : (w5.setRow w.heap.size y'.cells.toArray).heap[k]? = w3.heap[k]? := (setRow_other _ _ _ _ (by have := hK.1; omega)).trans (HB5.out.block k hk)
        exact ⟨e, by have := hK.1; omega, fun o => (World.frozen?_of_block (w := w3) e).trans (hK.2 o)⟩
theorem decode_all : ∀ (L : Nat) (b : List Int), b.length ≤ L → DecSaid b := by
  intro L
  induction L using Nat.strongRecOn with
  | _ L ih =>
    intro b hL
    exact decode_step b fun _ i h1 _ _ => ih i.length (by omega) i (Nat.le_refl _)
/-- What Decode answers. -/
theorem ndecode_any (b : List Int) : DecSaid b := decode_all b.length b (Nat.le_refl _)
/-- What Right answers. -/
theorem nright_any (K : Nat → Prop) (x : NV) (n : PN) (w : World) (h : NodeAt K w x n) :
    Calls Try.prog 11 #[.agg x.cells.toArray] w fun e w' => e = .returned (.bool (NR n)) ∧ Below w.heap.size w w' := rightIf K x n w h fun r _ _ => ndecode_any r.i
end Go.Proofs.Ytamibjgahcpkcab
/- What refItem answers. -/
namespace Go.Proofs.Ytamibjgahcpkcab
open Go.RowKit
set_option linter.unusedVariables false
set_option maxRecDepth 100000
theorem frozen_row {w : World} {g : Nat} {b : List Int} (h : Row g w b) (o : Nat) : w.frozen? ⟨g, o, none⟩ = false := frozen_of_row _ _ _ _ _ h
theorem liesP_txt {P : Nat → Prop} {w : World} {g n : Nat} {b : List Int} (h : Row g w b) (hl : b.length = n) (hb : isB b) (hn : n ≤ 140737488351232) (hP : P g) : LiesP P w (.mk false b []) ⟨false, some ⟨g, 0, none⟩, n, n, none, 0, 0⟩ :=
  liesP_eq.2 ⟨⟨rfl, row_ag (n := n) h hl hb (Nat.le_trans hn (by omega)), rfl, Nat.le_refl _, Nat.zero_le _, ⟨hn, Nat.zero_le _⟩, fun g' off e _ => by cases e; exact ⟨hP, frozen_row h⟩⟩, liesPAll_nil⟩
theorem liesP_zero (P : Nat → Prop) (w : World) : LiesP P w t0 ⟨false, none, 0, 0, none, 0, 0⟩ :=
  liesP_eq.2 ⟨⟨rfl, ⟨.inl ⟨rfl, rfl⟩, fun _ => ⟨rfl, rfl⟩, rfl, fun x hx => by cases hx⟩, rfl, Nat.le_refl _, Nat.zero_le _, ⟨Nat.zero_le _, Nat.zero_le _⟩, fun g off e => by cases e⟩, liesPAll_nil⟩
/-- The reference's box and the result's, while refItem goes on. -/
structure Ri (w v : World) (x : RV) : Prop where
  row : v.heap[w.heap.size + 1]? = some (.cells #[.bool false, .slice none 0 0, .slice none 0 0] 43)
  bx : RBx w.heap.size v x
  bel : Below w.heap.size w v
  sz : w.heap.size + 2 ≤ v.heap.size
theorem Ri.go {w v v' : World} {x : RV} (h : Ri w v x) (hb : Below v.heap.size v v') : Ri w v' x := ⟨Below.row hb h.row, h.bx.go hb, below_go h.bel hb, Nat.le_trans h.sz hb.size⟩
theorem ri_new (w : World) (x : RV) (hl : x.d.length = 32) : Ri w ((w.alloc (.cells x.cells.toArray 26)).alloc (.cells #[.bool false, .slice none 0 0, .slice none 0 0] 43)) x := by
  have s1 : (w.alloc (.cells x.cells.toArray 26)).heap.size = w.heap.size + 1 := by simp
  refine ⟨?_, (rbx_new w x hl).go (below_new _ _), below_go (below_new w _) (below_new _ _), by simp⟩
  have := heap_alloc_new (w.alloc (.cells x.cells.toArray 26)) (.cells #[.bool false, .slice none 0 0, .slice none 0 0] 43)
  rwa [s1] at this
theorem Ri.x0 {w v : World} {x : RV} (h : Ri w v x) : v.cell? ⟨w.heap.size + 1, 0, none⟩ = some (.bool false) := by rw [cell_of_row _ _ _ _ _ _ h.row]; rfl
theorem Ri.x1 {w v : World} {x : RV} (h : Ri w v x) : v.cell? ⟨w.heap.size + 1, 1, none⟩ = some (.slice none 0 0) := by rw [cell_of_row _ _ _ _ _ _ h.row]; rfl
theorem Ri.x2 {w v : World} {x : RV} (h : Ri w v x) : v.cell? ⟨w.heap.size + 1, 2, none⟩ = some (.slice none 0 0) := by rw [cell_of_row _ _ _ _ _ _ h.row]; rfl
theorem Ri.xf {w v : World} {x : RV} (h : Ri w v x) : ∀ o, v.frozen? ⟨w.heap.size + 1, o, none⟩ = false := fun o => frozen_of_row _ _ _ _ _ h.row
/-- What refItem and its like tell: an item in new memory. -/
def IPost (w : World) (t : T) : Ending → World → Prop := fun e w' => (∃ y : V, e = .returned (.agg #[.bool y.l, .slice y.ba y.bn y.bc, .slice y.ia y.m y.ic]) ∧ LiesP (fun b => w.heap.size ≤ b) w' t y) ∧ Below w.heap.size w w'
/-- The item stored in the result's block. -/
theorem ipost_put {w v : World} {x : RV} {t : T} {y : V} (h : Ri w v x) (hy : LiesP (fun b => w.heap.size + 2 ≤ b) v t y) :
    IPost w t (.returned (.agg #[.bool y.l, .slice y.ba y.bn y.bc, .slice y.ia y.m y.ic])) (((v.setCell ⟨w.heap.size + 1, 0, none⟩ (.bool y.l)).setCell ⟨w.heap.size + 1, 1, none⟩ (.slice y.ba y.bn y.bc)).setCell ⟨w.heap.size + 1, 2, none⟩ (.slice y.ia y.m y.ic)) :=
  ⟨⟨y, rfl, liesP_mono (fun b hb hlt => ⟨other3 (by omega) _ _ _, by omega⟩) _ _ hy⟩, below3 h.bel (by omega) _ _ _⟩
set_option maxHeartbeats 4000000 in
theorem refItem_any (K : Nat → Prop) (x : RV) (r : PR) (w : World) (h : RefAt K w x r) :
    Calls Try.prog 27 #[.agg x.cells.toArray] w (IPost w (refItemP r)) := by
  have HRI := Hid.mk (ri_new w x h.len)
  have HH := Hid.mk h
  have HLX := Hid.mk h.len
  obtain ⟨res, hres⟩ : ∃ res, refItemP r = res := ⟨_, rfl⟩
  rw [hres]
  unfold refItemP at hres
  rw [← h.1] at hres
  have HRES := Hid.mk hres
  clear h hres
  go_enter Try.func27, Try.ntmps27
  go_upto_region 1 with fail
  refine gen_w (p := fun v => Code.wp _ _ _ _ v) (q := fun v => Ri w v x) HRI.out ?_
  clear HRI
  intro v R0
  have c0 := R0.bx.c0
  have c33 := R0.bx.c33
  have HR0 := Hid.mk R0
  clear R0
  by_cases h1 : x.k = 1
  · have hr := HRES.out
    rw [if_pos h1] at hr
    have HCD := Hid.mk (decode_any x.a x.n x.c r.i v (HH.out.2.2.2.2.1.at HR0.out.bel) HH.out.2.2.2.2.2.1)
    have HR := Hid.mk hr
    clear hr HRES
    go_wp2_with fail
    refine HCD.out.mono ?_
    intro e w1 hp
    obtain ⟨hb1, hp⟩ := hp
    have HR1 := Hid.mk (HR0.out.go hb1)
    have HS0 := Hid.mk HR0.out.sz
    have hr := HR.out
    cases hq : decP r.i with
    | bad er =>
      rw [hq] at hp hr
      have hr : t0 = res := hr
      subst hr
      obtain ⟨rfl, her⟩ := hp
      clear hb1 hq her
      go_upto_region 4 with fail
      refine gen_w (p := fun v => Code.wp _ _ _ _ v) (q := fun v => Ri w v x ∧ B1 w1.heap.size v ⟨false, none, 0, 0, none, 0, 0⟩) ⟨HR1.out.go (below_new w1 _), b1_new w1 ⟨false, none, 0, 0, none, 0, 0⟩⟩ ?_
      rintro v2 ⟨R2, B2⟩
      have x0 := R2.x0
      have x1 := R2.x1
      have x2 := R2.x2
      have xf := R2.xf
      have d0 := B2.c0
      have d1 := B2.c1
      have d2 := B2.c2
      have HR2 := Hid.mk R2
      clear R2 B2 c0 c33
      go_wp2_with fail
      have hr := put3 HR2.out.row (.bool false) (.slice none 0 0) (.slice none 0 0)
      refine bodyPost_ret (results_cell_row Try.results27 _ _ (w.heap.size + 1) 43 _ (0, 0) _ rfl hr Try.underlying43 rfl (by kernel_rfl)) rfl ?_
      exact ipost_put (y := ⟨false, none, 0, 0, none, 0, 0⟩) HR2.out (liesP_zero _ _)
    | ok t =>
      rw [hq] at hp hr
      have hr : t = res := hr
      subst hr
      obtain ⟨y, rfl, hy⟩ := hp
      have HY := Hid.mk (show LiesP (fun b => w.heap.size + 2 ≤ b) w1 t y from liesP_mono (fun b hb hlt => ⟨rfl, by have := HS0.out; omega⟩) _ _ hy)
      clear hb1 hq hy
      go_upto_region 4 with fail
      refine gen_w (p := fun v => Code.wp _ _ _ _ v) (q := fun v => Ri w v x ∧ B1 w1.heap.size v y ∧ LiesP (fun b => w.heap.size + 2 ≤ b) v t y) ⟨HR1.out.go (below_new w1 _), b1_new w1 _, liesP_mono (fun b hb hlt => ⟨heap_alloc_old _ _ hlt, hb⟩) _ _ HY.out⟩ ?_
      rintro v2 ⟨R2, B2, L2⟩
      have x0 := R2.x0
      have x1 := R2.x1
      have x2 := R2.x2
      have xf := R2.xf
      have d0 := B2.c0
      have d1 := B2.c1
      have d2 := B2.c2
      have HR2 := Hid.mk R2
      have HL2 := Hid.mk L2
      clear R2 B2 L2 c0 c33
      go_wp2_with fail
      have hr := put3 HR2.out.row (.bool y.l) (.slice y.ba y.bn y.bc) (.slice y.ia y.m y.ic)
      refine bodyPost_ret (results_cell_row Try.results27 _ _ (w.heap.size + 1) 43 _ (0, 0) _ rfl hr Try.underlying43 rfl (by kernel_rfl)) rfl ?_
      exact ipost_put HR2.out HL2.out
  · by_cases h2 : x.k = 2
    · have hr := HRES.out
      rw [if_neg h1, if_pos h2] at hr
      subst hr
      have hag : Ag v (some ⟨w.heap.size, 1, none⟩) 32 32 r.d := by
        have hd := HR0.out.bx.digest
        rw [HH.out.2.1] at hd
        refine ⟨.inr ⟨w.heap.size, 1, rfl, HH.out.2.2.2.1, by omega, by omega, by unfold maxLen; omega, fun j hj => ?_⟩, (fun e => by cases e), HH.out.2.2.2.1, HH.out.2.2.1⟩
        exact hd j _ (by rw [List.getElem?_map, List.getD, List.getElem?_eq_getElem hj]; rfl)
      have HTX := Hid.mk (text_any (some ⟨w.heap.size, 1, none⟩) 32 32 r.d v hag (by omega))
      have HS0 := Hid.mk HR0.out.sz
      have e1 : (x.k == 1) = false := by simp [h1]
      clear hag
      go_wp2_with fail
      refine HTX.out.mono ?_
      rintro e w1 ⟨rfl, hrow, hb1⟩
      have R1 := HR0.out.go hb1
      have x0 := R1.x0
      have x1 := R1.x1
      have x2 := R1.x2
      have xf := R1.xf
      have HR1 := Hid.mk R1
      have HY := Hid.mk (liesP_txt (P := fun b => w.heap.size + 2 ≤ b) hrow HH.out.2.2.2.1 HH.out.2.2.1 (by omega) (by have := HS0.out; omega))
      clear hrow hb1 R1
      go_wp2_with fail
      have hr := put3 HR1.out.row (.bool false) (.slice (some ⟨v.heap.size + 1, 0, none⟩) 32 32) (.slice none 0 0)
      refine bodyPost_ret (results_cell_row Try.results27 _ _ (w.heap.size + 1) 43 _ (0, 0) _ rfl hr Try.underlying43 rfl (by kernel_rfl)) rfl ?_
      exact ipost_put (y := ⟨false, some ⟨v.heap.size + 1, 0, none⟩, 32, 32, none, 0, 0⟩) HR1.out HY.out
    · have hr := HRES.out
      rw [if_neg h1, if_neg h2] at hr
      subst hr
      have hag : Ag v none 0 0 [] := ⟨.inl ⟨rfl, rfl⟩, fun _ => ⟨rfl, rfl⟩, rfl, fun x hx => by cases hx⟩
      have HTX := Hid.mk (text_any none 0 0 [] v hag (by omega))
      have HS0 := Hid.mk HR0.out.sz
      have e1 : (x.k == 1) = false := by simp [h1]
      have e2 : (x.k == 2) = false := by simp [h2]
      clear hag
      go_wp2_with fail
      refine HTX.out.mono ?_
      rintro e w1 ⟨rfl, hrow, hb1⟩
      have R1 := HR0.out.go hb1
      have x0 := R1.x0
      have x1 := R1.x1
      have x2 := R1.x2
      have xf := R1.xf
      have HR1 := Hid.mk R1
      have HY := Hid.mk (liesP_txt (P := fun b => w.heap.size + 2 ≤ b) (n := 0) hrow rfl (fun x hx => by cases hx) (by omega) (by have := HS0.out; omega))
      clear hrow hb1 R1
      go_wp2_with fail
      have hr := put3 HR1.out.row (.bool false) (.slice (some ⟨v.heap.size + 1, 0, none⟩) 0 0) (.slice none 0 0)
      refine bodyPost_ret (results_cell_row Try.results27 _ _ (w.heap.size + 1) 43 _ (0, 0) _ rfl hr Try.underlying43 rfl (by kernel_rfl)) rfl ?_
      exact ipost_put (y := ⟨false, some ⟨v.heap.size + 1, 0, none⟩, 0, 0, none, 0, 0⟩) HR1.out HY.out
end Go.Proofs.Ytamibjgahcpkcab
